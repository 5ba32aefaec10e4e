import PyProof.Rows.All
import Wide.All
import OpenK.AllK
import Wide.FinOn
import Lean
import PyProof.EqAt
import PyProof.EqKinds
import PyProof.TupleCall
import PySem.Challenge.RW_apart_k51_ifs_and_whiles
set_option maxHeartbeats 16000000
set_option Elab.async false
set_option linter.all false
set_option compiler.extract_closed false
set_option maxRecDepth 100000
open PySem renaming wpAny_bind->Aa,wpAny_pure->Ae,wpAny_newObj_type->AL,boot_len->AM,Spec->AV,wpAny_holding->AZ,wpAny_call_entry->Bm,wpAny_callSpecial?_slot->Bn,wpAny_setField_rec->Bu,wpAny_seqItems->BA,mem_of_lookup->BG,wpAny_truthy_bool->BH,wpAny_field->BO,codeAny_builtin->BP,wpAny_mono->BR,plainId_quiet->Cd,lookup_relabel_local->Cu,wpAny_rule->CH,wpAny_passesOwn->CL,builtinLookup_eq_fast->CN,wpAny_pyIter_list->CQ,wpAny_Call_Name_kw->Dg,tupleKind_room_in1->Dh,wpAny_typeNameOfWhole_keyiter->Dk,wpAny_setState_of->Dm,codeAny_mono->Dn,wpAny_typeOf->Dr,wpAny_tryCatch->Ds,typeLookup_type->DB,wpAny_updateSeq->DC,wpAny_typeNameOf_keyiter->DN,wpAny_pyNext_list_item->Eb,wpAny_letGo->Ee,wpAny_attempt->Eg,wpAny_isInstance->Eh,wpAny_pyNext_list_end->Ek,wpAny_isOneOf_keyiter->El,wpAny_execs_nil->Er,codeAny_call_builtin->Ex,wpAny_setEntries_of->ED,isSubtype_type->EG,wpAny_fieldsOf->EJ,wpAny_setField->EL,wpAny_of_eq->ES,wpAny_pyIter_tuple->ET,wpAny_standAt->EZ,fits_of_scanBound->Fi,wpAny_pyIter_slot->Fk,wpAny_setEpoch_of->Fl,strKind_is->Fq,noFill_tuple_add->Fv,wpAny_comprehension_free->Fx,wpAny_askSetting->FA,call_meetsIn->FE,wpAny_specialOf->FU,wpAny_pyNext_range_end->FY,wpAny_pyIter_rangeiter->FZ,sizeLine_eq->Gc,wpAny_Call_method_late->Gf,codeAny_compStart_list->Gg,wpAny_isTrue_Compare1->Gp,isSubtype_stop->Gw,wpAny_notOrdered_dict->G0,wpAny_call->GZ,typeIs_str->Hb,wpAny_newFunctionEnv->He,wpAny_updateSeq_pair->Hf,seq_tuple_add->Hi,wpAny_onRaise->Hl,wpAny_raiseNew_none->Hr,Within->Hu,wpAny_pyIter_range->Hv,concat_meets->Hz,seqIndex_neg->HB,putSet_of->HE,wpAny_assign_Name->HK,wpAny_sequenceKey->HM,slot_list_getitem->HN,wpAny_storeSet_of->HR,wpAny_Call_method->HU,wpAny_dictEntries->HV,seqIndex_of->HY,wpAny_execs_cons->Ib,wpAny_getItem_of->Ig,wpAny_pyIter_zip->Ij,wpAny_Name->Io,wpAny_load->Ip,call_meets->Iq,call->Ir,Builtin->IJ
open PySem.W renaming Frag->Ab,nsIn->Am,mg_of->Aw,findIn->Ay,mg_none_of->AK,isFn->Bp,emptyDict->BW,keepIn->Cq,instObj->Cs,plainGet->CY,hasDictIn->Dl,fnOf->Dq,plainOver->DX,makesIn->Es,plainGet_of->EC,lookIn->EF,callWith_K->EU,methodObj->Fg,takerIn->FS,OpenLaw->FT,KeysLit->FV,cellsFrom_some->Ge,methodCall_KW->Gr,codeIn->Gs,handedIn->Ic,mapOf_K->Iv,WalkO->II
open List renaming length_map->Ac,length_append->Ag,getElem?_eq_getElem->Ai,mem_cons_self->Aj,getElem?_map->Ak,mem_cons->Al,mem_cons_of_mem->Ao,getElem?_eq_some_iff->Aq,size_toArray->Ar,mem_append->As,mem_singleton->Au,length_cons->A0,map_cons->AA,map_append->AB,mem_append_right->AE,mem_map->AF,not_mem_nil->AN,mem_of_getElem?->AQ,length_take->AS,mem_append_left->AW,length_singleton->AX,eq_nil_of_length_eq_zero->AY,length_drop->Ba,nodup_cons->Bb,mem_flatMap->Bh,take_of_length_le->Bj,flatMap_singleton->Bw,length_filter_le->Bx,find?_cons->BC,take_length->BD,append_assoc->BI,getElem?_eq_none->BK,mem_of_mem_take->BS,take_add_one->BX,append_nil->BZ,flatMap_append->Ci,mem_map_of_mem->Cj,getD_eq_getElem?_getD->Cn,flatMap_nil->Cp,getElem?_toArray->Cr,map_map->Cv,sum_cons->Cy,length_reverse->C0,filter_append->CJ,mem_filter->CK,reverse_cons->CS,mem_of_mem_drop->CU,drop_zero->CW,getElem?_take_of_lt->CZ,all_eq_true->Dc,getElem_mem->De,filterMap_cons->Df,length_replicate->Do,getElem?_concat_length->Dt,range->Du,lookup->Dw,map_id->Dx,map_congr_left->Dy,length_nil->DD,drop_eq_getElem_cons->DF,nodup_nil->DS,take_zero->DT,getElem?_cons_succ->DV,flatMap_cons->Ea,any_cons->Ef,filter_cons->Ei,lookup_cons->Ej,of_mem_zip->Eu,length_zip->EA,getElem_of_mem->EE,mem_range->EK,dropLast_concat_getLast->ER,length_eraseIdx_of_lt->Fe,nodup_append->Fj,length_range->Fm,any_eq_true->Fz,filter_cons_of_pos->FN,filter_cons_of_neg->FO,pairwise_singleton->FQ,filter_nil->FW,getElem?_set_self->FX,drop_eq_nil_of_le->Gj,singleton_append->Gv,take_succ->GV,getElem?_set_ne->GY,dropLast_concat->Hg,reverse_reverse->Hh,map_take->Hk,filterMap_map->HA,take_sublist->HL,getElem?_inj->HW,zipIdx_cons->Ii,drop_length->Ik,cons_ne_nil->Il,filter_map->Iw,zipIdx_nil->Iy,forIn_cons->Iz,replicate->IA,forIn_nil->IC,all_cons->IH,map_drop->IK,map_nil->IM,length->IX
open PySem.Heap renaming get?_push_of_some->Ad,get?_push_size->An,lt_size->Ap,get?_update_other->Bd,size_push->Bg,get?_update_self->Bl,SameBut->Ct,get?_none_of_le->Ep,ExtBut->Gh,IsTuple->IQ
open Bool renaming false_ne_true->Af,false_eq_true->Bt,eq_iff_iff->BY,and_eq_true->Cc,false_and->Gq,or_false->IG
open Nat renaming le_refl->Ah,le_trans->Ax,ne_of_lt->Az,lt_of_lt_of_le->AC,zero_le->AG,lt_irrefl->Bi,lt_of_le_of_lt->Bs,le_of_lt->BV,lt_succ_self->Cb,ne_of_gt->Ck,le_add_right->Co,lt_succ_of_lt->Cw,le_succ->CD,min_eq_left->DE,sub_zero->DM,le_of_eq->Et,mod_lt->Ey,le_of_not_lt->Fw,min_eq_right->FG,succ_le_succ->FI,add_le_add_left->Ho,add_sub_cancel->HH,mod_eq_of_lt->Im,add_le_add->IE,min_self->IR
open Option.some renaming inj->Av
open PySem.Paired renaming length->AD,snoc->IY
open PySem.PassesOwn renaming never->AH
open Ne renaming symm->AO
open PySem.F renaming plainAttrs_list->AR,slot_list_append->BL,type_list_append->BM,plain_max_loop->CB,slot_dict_get->CO,slot_tuple_iterator_next->CP,args_tuple_add_2->DJ,slot_list_extend->DO,type_list_extend->DP,entry_tuple_add->DU,plainAttrs_dict->DW,slot_dict_keyiterator_next->DY,slot_tuple_add->Ec,entry_dict_get->Ed,slot_list_pop->En,type_list_pop->Eo,slot_zip_next->E9,args_tuple_iterator_next_1->EN,entry_tuple_iterator_next->EX,plain_extend_loop->Fs,slot_dict_getitem->Ft,entry_max_loop->FJ,plain_list_iadd->FK,args_dict_get_3->FL,slot_dict_iter->Gi,plainAttrs_str->Gk,slot_str_index->Gm,type_str_index->Gn,plain_set_new->Gu,slot_set_iter->Gx,type_dict_get->Gy,slot_dict_pop->Gz,args_zip_next_1->HX,entry_zip_next->Ih
open Array renaming length_toList->AU,getElem?_toList->BJ,eq_empty_of_size_eq_zero->Ez,getElem?_eq_getElem->Fu,find?_toList->Hw,toList_push->HQ,toList->IL
open Option renaming map_eq_some_iff->Be,isSome_map->Fn,getD_some->Fy,bind_eq_some_iff->FR,getD_none->Ie
open List.Nodup renaming length_le_of_subset->Bf
open PySem.Str renaming ofString->Bq,length->Fp,cps_append->GQ,empty->IF
open PySem.Around renaming under_plainId->Br,under->Hx
open PyProof.Rows renaming boot_list->Bv,slot_tuple_getitem->Bz,boot_dict->BE,boot_int->BN,callWith_type1->Cg,boot_isinstance->CC,sortedS->E8,boot_sorted->FH,boot_tuple->FP,boot_set->GJ
open Int renaming toNat_natCast->By,emod_lt_of_pos->BQ,emod_nonneg->Ca,toNat->CV,fdiv_eq_ediv_of_nonneg->Fb,ne_of_gt->HG
open PySem.Builtin.SmallTypes renaming nextOf->BF,ownedTupleIsFree->Ce,ownedTupleHandOut->DQ
open PySem.Value renaming isStrOf->BU,isStrOf_shape->Hn,isInt->IT
open PySem.Builtin.Range renaming rangeSize->Cf,rangeFitsLong->EW,small->Hq
open False renaming elim->Cm
open PySem.Heap.SameBut renaming update->Cz,refl->HP
open PySem.SetTable renaming grown->CA,below->EI
open PySem.Calls renaming callWith_builtin->CG,evalArgs_plain->Dv,spliced_cons->DH,Name_function_global->EY,spliced_nil->Fh
open PyProof.Rows.F renaming plain_set_update_loop->CI,entry_set_update_loop->DL
open PySem.Builtin.Slice renaming slicePlaces->CT,sliceAdjust->Dz,sliceApplied->Fc
open PySem.Builtin.Tuple renaming tupleExact->Da,tupleItemsOf->Fd
open PySem.Obj renaming data_mapFields->Di,mapSeq->DR,isFreed_of_fields->Em,putSet->Ew,mapFields->Ff,cls_mapFields->Fo
open Sum.inr renaming inj->Dj
open PySem.SeqAt.EqAt renaming same->DA,int_str->Hs,str_int->Ht,int_int->HC,str_str->HD
open PySem.Builtin.List renaming listTooLong->DK,listExtendWith->EV,listSameRef->FC
open PySem.PyData renaming canLayAll0->DZ,depthAll->EB,canLay0->EO,depth->HI
open List.Perm renaming refl->EH
open PySem.Builtin renaming divisionGoesByPylong->EM
open PySem.Builtin.Frozenset renaming sizeOf->FB
open PySem.Builtin.Dict renaming updateFrom->FM,showsAll->GG
open PySem.SeqAt renaming EqAt->Hc,eqv_refl->ID
open PySem.Shared renaming TypeIs->Hj,heap->IZ
open List.cons renaming inj->Hm
open PySem.Code renaming isFrame->Hy,frames->IW
open PySem.pickOrder renaming go->HF
open Iff renaming rfl->HJ
open PySem.SetTable.below renaming go->HS
open Prod.mk renaming inj->HZ
open PySem.Walks renaming list->Iu,range->IU
open PySem.Manifest renaming find?->IB
open Prod renaming snd->IP
open PySem.Txt renaming find->IS
open PySem.IsRange renaming new->IV
namespace L2
open PySem PySem.Spec PyProof.Rows
abbrev Key:=Sum Int Str
noncomputable def oh:Key->Value->Bool
 | .inl k,v=>IT k v
 | .inr x,v=>BU x v
noncomputable def keyH (w:World):Key->Int
 | .inl k=>hashInt k
 | .inr x=>hashStr w x
theorem ck:∀{k:Key}{v:Value},oh k v=true->(∃i t,k=Sum.inl i/\v=Value.int i t)\/(∃x t,k=Sum.inr x/\v=Value.str x t)
 | .inl i,v,h=>by
   obtain⟨t,e⟩:=Value.isInt_shape (k:=i) (v:=v) h
   exact .inl ⟨i,t,rfl,e⟩
 | .inr x,v,h=>by
   obtain⟨t,e⟩:=Hn (x:=x) (v:=v) h
   exact .inr ⟨x,t,rfl,e⟩
theorem a2q (i:Int) (t:Tok):oh (.inl i) (.int i t)=true:=by simp[oh,IT]
theorem a3c (x:Str) (t:Tok):oh (.inr x) (.str x t)=true:=by simp[oh,BU]
theorem a9u (a b:Int):decide ((Sum.inl a:Key)=Sum.inl b)=(a == b):=by
 by_cases e:a=b
 . subst e;simp
 . have h:¬ (Sum.inl a:Key)=Sum.inl b:=fun q=>e (Sum.inl.inj q)
   rw[decide_eq_false h]
   exact (beq_eq_false_iff_ne.mpr e).symm
theorem aa3 (a b:Str):decide ((Sum.inr a:Key)=Sum.inr b)=decide (a=b):=by
 by_cases e:a=b
 . subst e;simp
 . have h:¬ (Sum.inr a:Key)=Sum.inr b:=fun q=>e (Dj q)
   rw[decide_eq_false h,decide_eq_false e]
theorem a9g (a:Int) (b:Str):decide ((Sum.inl a:Key)=Sum.inr b)=false:=decide_eq_false (fun q=>nomatch q)
theorem a9c (a:Str) (b:Int):decide ((Sum.inr a:Key)=Sum.inl b)=false:=decide_eq_false (fun q=>nomatch q)
noncomputable def ci (prog:Program) (w:World):PySem.KeyKind prog w Key where
 is:=oh
 hash:=keyH w
 inj:=fun v a b ha hb=>by
   rcases ck ha with⟨i,t,rfl,rfl⟩|⟨x,t,rfl,rfl⟩
   . rcases ck hb with⟨j,u,rfl,e⟩|⟨y,u,rfl,e⟩
     . injection e with e1 _;rw[e1]
     . exact nomatch e
   . rcases ck hb with⟨j,u,rfl,e⟩|⟨y,u,rfl,e⟩
     . exact nomatch e
     . injection e with e1 _;rw[e1]
 byValue:=fun k v h=>by
   rcases ck h with⟨i,t,rfl,rfl⟩|⟨x,t,rfl,rfl⟩<;>rfl
 pyHash:=fun hv h=>by
   rcases ck hv with⟨i,t,rfl,rfl⟩|⟨x,t,rfl,rfl⟩
   . exact wpAny_pyHash_int h
   . exact wpAny_pyHash_str h
 eqBool:=fun hu hv h=>by
   rcases ck hu with⟨i,t,rfl,rfl⟩|⟨x,t,rfl,rfl⟩
   . rcases ck hv with⟨j,u,rfl,rfl⟩|⟨y,u,rfl,rfl⟩
     . rw[a9u] at h;exact wpAny_eqBool_int h
     . rw[a9g] at h;exact Hs i t y u _ _ _ _ h
   . rcases ck hv with⟨j,u,rfl,rfl⟩|⟨y,u,rfl,rfl⟩
     . rw[a9c] at h;exact Ht x t j u _ _ _ _ h
     . rw[aa3] at h;exact wpAny_eqBool_str h
 «strs» := fun k x t v h=>by
   rcases ck h with⟨i,u,rfl,e⟩|⟨y,u,rfl,e⟩
   . exact nomatch e
   . injection e with e1 _
     subst e1
     cases v<;>rfl
theorem yp (prog:Program) (w:World) (i:Int) (t:Tok):(ci prog w).is (.inl i) (.int i t)=true:=a2q i t
theorem yf (prog:Program) (w:World) (x:Str) (t:Tok):(ci prog w).is (.inr x) (.str x t)=true:=a3c x t
inductive V where
 | non|bl (b:Bool)|int (i:Int)|str (x:Str)|byt (b:Array UInt8)|flt (b:UInt64)|ref (a:Addr)|ty (n:String)
 deriving DecidableEq
noncomputable def RelV:V->Value->Prop
 | .non,u=>u=Value.none
 | .bl b,u=>u=Value.bool b
 | .int i,u=>∃t,u=Value.int i t
 | .str x,u=>∃t,u=Value.str x t
 | .byt b,u=>∃t,u=Value.bytes b t
 | .flt b,u=>∃t,u=Value.float b t
 | .ref a,u=>u=Value.ref a
 | .ty n,u=>u=Value.type n
abbrev Vals:List V->List Value->Prop:=Paired RelV
theorem Vals.length {xs:List V}{us:List Value}(r:Vals xs us):xs.length=us.length:=AD r
theorem Vals.get:∀{xs:List V}{us:List Value}{i:Nat}{x:V},Vals xs us->xs[i]? = some x->∃u,us[i]? = some u/\RelV x u
 | _,_,_,_,.nil,e=>by simp at e
 | _,_,0,_,.cons r _,e=>by simp at e;subst e;exact⟨_,rfl,r⟩
 | _,_,i+1,x,.cons _ t,e=>by
   obtain⟨u,h1,h2⟩:=Vals.get (i:=i) (x:=x) t (by simpa using e)
   exact⟨u,by simpa using h1,h2⟩
theorem Vals.set {x:V}{u:Value}(r:RelV x u):∀{xs:List V}{us:List Value}(i:Nat),Vals xs us->Vals (xs.set i x) (us.set i u)
 | _,_,_,.nil=>.nil
 | _,_,0,.cons _ t=>.cons r t
 | _,_,i+1,.cons q t=>.cons q (Vals.set r i t)
theorem Vals.append:∀{xs ys:List V}{us ws:List Value},Vals xs us->Vals ys ws->Vals (xs++ys) (us++ws)
 | _,_,_,_,.nil,s=>s
 | _,_,_,_,.cons r t,s=>.cons r (Vals.append t s)
theorem Vals.take:∀{xs:List V}{us:List Value}(n:Nat),Vals xs us->Vals (xs.take n) (us.take n)
 | _,_,0,_=>.nil
 | _,_,_+1,.nil=>.nil
 | _,_,n+1,.cons r t=>.cons r (Vals.take n t)
theorem Vals.drop:∀{xs:List V}{us:List Value}(n:Nat),Vals xs us->Vals (xs.drop n) (us.drop n)
 | _,_,0,r=>r
 | _,_,_+1,.nil=>.nil
 | _,_,n+1,.cons _ t=>Vals.drop n t
noncomputable def RelO:Option V->Option Value->Prop
 | some v,some u=>RelV v u
 | none,none=>True
 | _,_=>False
noncomputable def KV {κ:Type}:List (κ×V)->List (κ×Value)->Prop:=Paired fun (p:κ×V) (q:κ×Value)=>p.1=q.1/\RelV p.2 q.2
noncomputable def kV:Key->V
 | .inl i=>.int i
 | .inr x=>.str x
inductive HO where
 /-- a list -/
 | lst (xs:List V)
 /-- a tuple (never changes) -/
 | tup (xs:List V)
 /-- a dict whose keys are ints and texts;one whose keys are tuples of ints and texts (the empty one is both) -/
 | dK (kvs:List (Key×V))|dT (kvs:List (List Key×V))
 /-- a set of ints: its members,its size -/
 | set (S:Int->Bool) (n:Nat)
 /-- an instance of the class at C,its dict at dx,its attributes -/
 | ins (C dx:Addr) (fs:List (Str×V))
 /-- the dict of the instance at x -/
 | own (x:Addr)
 /-- the dict of an exception -/
 | xd (fs:List (Str×V))
 /-- a bound method,f of x -/
 | met (f x:Addr)
 /-- a range object lo,lo+1,.. below hi -/
 | rng (lo hi:Int)
 /-- a thing that is known to the object (the script;a dict while a loop walks it): read,never written while it is so -/
 | frz (o:Obj) (u:HO)
 /-- a code object's table -/
 | tbl (ps:Array Value)
 /-- any other thing,by what is true of its one object (a def of one's own: SetO a S n:=HO.ext fun h=>..) -/
 | ext (φ:Heap->Prop)
abbrev Hp:=Addr->Option HO
noncomputable def upd (H:Hp) (a:Addr) (o:HO):Hp:=fun b=>if b=a then some o else H b
theorem aa {H:Hp}{a:Addr}{o:HO}:upd H a o a=some o:=by unfold upd;rw[if_pos rfl]
theorem ah {H:Hp}{a b:Addr}{o:HO}(h:b≠a):upd H a o b=H b:=by unfold upd;rw[if_neg h]
theorem aav {H:Hp}{a b:Addr}{o u:HO}(h:H a=some o) (h':H b=some u) (d:o≠u):a≠b:=by
 intro e;subst e;rw[h] at h';exact d (Av h')
theorem ao {H:Hp}{a b:Addr}{o:HO}(h:H a=some o) (h':H b=none):a≠b:=by
 intro e;subst e;rw[h] at h';cases h'
section
variable (P:Program) (w:World)
noncomputable def ObjOk (H:Hp) (h:Heap) (a:Addr):HO->Prop
 | .lst xs=>xs.length<=sizeLine/\∃(its:List Value) (n:Nat),Vals xs its/\h.get? a=some { cls:=.type "list",data:=.seq its.toArray n }
 | .tup xs=>xs.length<=sizeLine/\∃its:List Value,Vals xs its/\IsTup h a its.toArray
 | .dK kvs=>kvs.length<=sizeLine/\(a == sysModules)=false/\∃vs,KV kvs vs/\h.DictOf (ci P w) a vs
 | .dT kvs=>kvs.length<=sizeLine/\(a == sysModules)=false/\∃xs:List (List Key×Addr×Value),
     Paired (fun (p:List Key×V) (q:List Key×Addr×Value)=>p.1=q.1/\H q.2.1=some (.tup (p.1.map kV))/\RelV p.2 q.2.2) kvs xs/\
     ∃o es ep,h.get? a=some o/\o.ExactDict/\o.data=.dict es ep/\es.toList=xs.map (entryOfKey (tupleKind (ci P w)))/\(xs.map (·.1)).Nodup
 | .set S n=>h.SetOf (intKind P w) a S n
 | .ins C dx fs=>H dx=some (.own a)/\fs.length<=1000/\dx≠a/\h.get? a=some (Cs C dx)/\
     ∃mA,h.Ns1 dx mA/\(∀f,RelO (fs.lookup f) (mA f))/\Hu mA (fs.map (·.1))
 | .own _=>∃o,h.get? a=some o
 | .xd fs=>∃mA,h.Ns1 a mA/\∀f,RelO (fs.lookup f) (mA f)
 | .rng lo hi=>∃t u v,h.get? a=some { cls:=.type "range",data:=.fields #[.int lo t,.int hi u,.int 1 v] }
 | .frz o u=>h.get? a=some o/\ObjOk H h a u
 | .tbl ps=>h.get? a=some { cls:=.none,data:=.fields ps }
 | .met f x=>h.get? a=some (Fg (.ref f) (.ref x))
 | .ext φ=>φ h/\(∃o,h.get? a=some o)/\∀h1 h2:Heap,φ h1->(∀o,h1.get? a=some o->h2.get? a=some o)->φ h2
noncomputable def HOk (H:Hp) (h:Heap):Prop:=∀a o,H a=some o->ObjOk P w H h a o
end
section
variable {P:Program}{w:World}{H H':Hp}{h h':Heap}{a:Addr}{o:HO}
theorem ObjOk.lt (x:ObjOk P w H h a o):a<h.objs.size:=by
 cases o with
 | lst xs=>obtain⟨_,_,_,_,e⟩:=x;exact Ap e
 | tup xs=>obtain⟨_,_,_,p⟩:=x;exact p.lt
 | dK kvs=>obtain⟨_,_,_,_,o,_,_,e,_⟩:=x;exact Ap e
 | dT kvs=>obtain⟨_,_,_,_,o,_,_,e,_⟩:=x;exact Ap e
 | set S n=>obtain⟨o,_,_,_,e,_⟩:=x;exact Ap e
 | ins C dx fs=>obtain⟨_,_,_,e,_⟩:=x;exact Ap e
 | own y=>obtain⟨_,e⟩:=x;exact Ap e
 | xd fs=>obtain⟨_,⟨_,_,_,e,_⟩,_⟩:=x;exact Ap e
 | rng lo hi=>obtain⟨_,_,_,e⟩:=x;exact Ap e
 | frz ob u=>obtain⟨e,_⟩:=x;exact Ap e
 | tbl ps=>exact Ap (show h.get? a=some _ from x)
 | met f y=>exact Ap (show h.get? a=some _ from x)
 | ext φ=>obtain⟨_,⟨_,e⟩,_⟩:=x;exact Ap e
theorem Paired.mapP {α β:Type}{F G:α->β->Prop}:∀{l₁:List α}{l₂:List β},Paired F l₁ l₂->(∀a b,F a b->G a b)->Paired G l₁ l₂
 | _,_,.nil,_=>.nil
 | _,_,.cons r t,f=>.cons (f _ _ r) (Paired.mapP t f)
theorem ObjOk.stay (x:ObjOk P w H h a o) (k:∀b u,(b=a\/H b=some (.own a))->h.get? b=some u->h'.get? b=some u)
   (ho:∀b,H b=some (.own a)->H' b=some (.own a)) (ht:∀b xs,H b=some (.tup xs)->H' b=some (.tup xs)):ObjOk P w H' h' a o:=by
 induction o with
 | lst xs=>obtain⟨z,its,n,r,e⟩:=x;exact⟨z,its,n,r,k _ _ (.inl rfl) e⟩
 | tup xs=>obtain⟨z,its,r,ob,e,c⟩:=x;exact⟨z,its,r,ob,k _ _ (.inl rfl) e,c⟩
 | dK kvs=>obtain⟨z,y,vs,r,ob,es,ep,e,c⟩:=x;exact⟨z,y,vs,r,ob,es,ep,k _ _ (.inl rfl) e,c⟩
 | dT kvs =>
   obtain⟨z,y,xs,r,ob,es,ep,e,c⟩:=x
   exact⟨z,y,xs,Paired.mapP r fun p q z=>⟨z.1,ht _ _ z.2.1,z.2.2⟩,ob,es,ep,k _ _ (.inl rfl) e,c⟩
 | set S n=>obtain⟨ob,es,ep,t,e,c⟩:=x;exact⟨ob,es,ep,t,k _ _ (.inl rfl) e,c⟩
 | ins C dx fs =>
   obtain⟨d,z,ne,e,mA,⟨od,es,ep,e2,c⟩,r⟩:=x
   exact⟨ho _ d,z,ne,k _ _ (.inl rfl) e,mA,⟨od,es,ep,k _ _ (.inr d) e2,c⟩,r⟩
 | own y=>obtain⟨ob,e⟩:=x;exact⟨ob,k _ _ (.inl rfl) e⟩
 | xd fs=>obtain⟨mA,⟨od,es,ep,e,c⟩,r⟩:=x;exact⟨mA,⟨od,es,ep,k _ _ (.inl rfl) e,c⟩,r⟩
 | rng lo hi=>obtain⟨t,u,v,e⟩:=x;exact⟨t,u,v,k _ _ (.inl rfl) e⟩
 | frz ob u ih=>obtain⟨e,q⟩:=x;exact⟨k _ _ (.inl rfl) e,ih q⟩
 | tbl ps =>
   have e:h.get? a=some { cls:=.none,data:=.fields ps }:=x
   show h'.get? a=some { cls:=.none,data:=.fields ps }
   exact k a _ (.inl rfl) e
 | met f y =>
   have e:h.get? a=some (Fg (.ref f) (.ref y)):=x
   show h'.get? a=some (Fg (.ref f) (.ref y))
   exact k a _ (.inl rfl) e
 | ext φ=>obtain⟨p,⟨o,e⟩,st⟩:=x;exact⟨st _ _ p fun o q=>k _ _ (.inl rfl) q,⟨o,k _ _ (.inl rfl) e⟩,st⟩
theorem HOk.lt (x:HOk P w H h) (e:H a=some o):a<h.objs.size:=(x a o e).lt
theorem HOk.fresh (x:HOk P w H h) (e:h.objs.size<=a):H a=none:=by
 cases q:H a with
 | none=>rfl
 | some u=>exact absurd (AC (x.lt q) e) (Bi _)
theorem HOk.kept (x:HOk P w H h) (k:∀b u,h.get? b=some u->h'.get? b=some u):HOk P w H h':=fun a o e =>
 (x a o e).stay (fun b u _ q=>k b u q) (fun _ q=>q) fun _ _ q=>q
theorem HOk.laid (x:HOk P w H h) (k:∀b u,h.get? b=some u->h'.get? b=some u) (hp:h.objs.size<=a) (new:ObjOk P w (upd H a o) h' a o):HOk P w (upd H a o) h':=fun b u e=>by
 have hn:=x.fresh hp
 by_cases hb:b=a
 . subst hb;rw[aa] at e;cases e;exact new
 . rw[ah hb] at e
   exact (x b u e).stay (fun c v _ q=>k c v q) (fun c q=>by rw[ah (ao q hn)];exact q) fun c xs q=>by rw[ah (ao q hn)];exact q
end
noncomputable def Rd (H:Hp) (a:Addr) (u:HO):Prop:=H a=some u\/∃o,H a=some (.frz o u)
theorem Rd.ok {P:Program}{w:World}{H:Hp}{h:Heap}{a:Addr}{u:HO}(r:Rd H a u) (x:HOk P w H h):ObjOk P w H h a u:=by
 rcases r with r|⟨o,r⟩
 . exact x a u r
 . obtain⟨_,q⟩:=x a _ r
   exact q
noncomputable def Mut:Option HO->Prop
 | some (.lst _)=>True
 | some (.dK _)=>True
 | some (.dT _)=>True
 | some (.set _ _)=>True
 | some (.ins _ _ _)=>True
 | some (.ext _)=>True
 | _=>False
section
variable {P:Program}{w:World}{H:Hp}{h h':Heap}{x e:Addr}{o':HO}
theorem HOk.write (ok:HOk P w H h) (mu:Mut (H x)) (he:e=x\/H e=some (.own x)) (k:∀b u,b≠e->h.get? b=some u->h'.get? b=some u) (heo:∃u,h'.get? e=some u)
   (new:ObjOk P w (upd H x o') h' x o'):HOk P w (upd H x o') h':=fun b u q=>by
 have nown:∀c y,H c=some (.own y)->c≠x:=fun c y r z=>by subst z;rw[r] at mu;exact mu
 have ntup:∀c xs,H c=some (.tup xs)->c≠x:=fun c xs r z=>by subst z;rw[r] at mu;exact mu
 by_cases hb:b=x
 . subst hb;rw[aa] at q;cases q;exact new
 . rw[ah hb] at q
   by_cases hbe:b=e
   . have q':H b=some (.own x):=by
       rcases he with z|z
       . exact absurd (hbe.trans z) hb
       . rw[hbe];exact z
     rw[q] at q';cases q'
     obtain⟨v,hv⟩:=heo
     exact⟨v,by rw[hbe];exact hv⟩
   . refine (ok b u q).stay (fun c v hc r=>k c v ?_ r) (fun c r=>by rw[ah (nown c b r)];exact r) fun c xs r=>by rw[ah (ntup c xs r)];exact r
     rcases hc with rfl|hc
     . exact hbe
     . rintro rfl
       rcases he with z|z
       . exact nown c b hc z
       . rw[hc] at z;cases z;exact hb rfl
end
structure Un (fs ex:List Addr) (H H':Hp) (h h':Heap):Prop where
 keep:∀b o,h.get? b=some o->H b=none->b∉fs->b∉ex->h'.get? b=some o
 slot:∀b o,h.get? b=some o->H b=none->b∈fs->b∉ex->∃sl,h'.get? b=some { o with slots:=sl }
 free:∀b o,h.get? b=some o->H b=none->b∉ex->H' b=none
 there:∀b o,h.get? b=some o->b∉ex->∃o',h'.get? b=some o'
 tups:∀b xs,H b=some (.tup xs)->H' b=some (.tup xs)
 frzs:∀b o u,H b=some (.frz o u)->H' b=some (.frz o u)
 tbls:∀b ps,H b=some (.tbl ps)->∃more,H' b=some (.tbl (ps++more))
section
variable {fs fs' ex ex':List Addr}{H H1 H2:Hp}{h h1 h2 h':Heap}{a x e:Addr}{o:HO}
theorem Un.any (u:Un fs ex H H1 h h1) {b:Addr}{ob:Obj}(q:h.get? b=some ob) (n:H b=none) (hx:b∉ex):∃sl,h1.get? b=some { ob with slots:=sl }:=by
 by_cases hb:b∈fs
 . exact u.slot b ob q n hb hx
 . exact⟨ob.slots,u.keep b ob q n hb hx⟩
theorem Un.kept (k:∀b u,h.get? b=some u->h'.get? b=some u):Un fs ex H H h h' :=
 ⟨fun b ob q _ _ _=>k b ob q,fun b ob q _ _ _=>⟨ob.slots,k b ob q⟩,fun _ _ _ n _=>n,fun b ob q _=>⟨ob,k b ob q⟩,fun _ _ q=>q,fun _ _ _ q=>q,fun _ ps q=>⟨#[],by rw[q];simp⟩⟩
theorem Un.refl:Un fs ex H H h h:=Un.kept fun _ _ q=>q
theorem Un.laid (k:∀b u,h.get? b=some u->h'.get? b=some u) (hp:h.objs.size<=a) (hn:H a=none):Un fs ex H (upd H a o) h h' where
 keep:=fun b u q _ _ _=>k b u q
 slot:=fun b u q _ _ _=>⟨u.slots,k b u q⟩
 free:=fun b u q n _=>by rw[ah (Az (AC (Ap q) hp))];exact n
 there:=fun b u q _=>⟨u,k b u q⟩
 tups:=fun b xs q=>by rw[ah (ao q hn)];exact q
 frzs:=fun b u xs q=>by rw[ah (ao q hn)];exact q
 tbls:=fun b ps q=>⟨#[],by rw[ah (ao q hn),q];simp⟩
theorem Un.write (mu:Mut (H x)) (he:e=x\/H e=some (.own x)) (k:∀b u,b≠e->h.get? b=some u->h'.get? b=some u) (heo:∃u,h'.get? e=some u):Un fs ex H (upd H x o) h h':=by
 have hx:∀b,H b=none->b≠x:=fun b n z=>by subst z;rw[n] at mu;exact mu
 have hb:∀b,H b=none->b≠e:=fun b n z=>by
   subst z
   rcases he with r|r
   . exact hx b n r
   . rw[n] at r;cases r
 have hm:∀b u,H b=some u->¬ Mut (some u)->b≠x:=fun b u q nm z=>by subst z;rw[q] at mu;exact nm mu
 refine⟨fun b u q n _ _=>k b u (hb b n) q,fun b u q n _ _=>⟨u.slots,k b u (hb b n) q⟩,fun b u q n _=>by rw[ah (hx b n)];exact n,fun b u q _=>?_,
   fun b xs q=>by rw[ah (hm b _ q fun z=>z)];exact q,fun b u xs q=>by rw[ah (hm b _ q fun z=>z)];exact q,fun b ps q=>⟨#[],by rw[ah (hm b _ q fun z=>z),q];simp⟩⟩
 by_cases hbe:b=e
 . subst hbe;exact heo
 . exact⟨u,k b u hbe q⟩
end
noncomputable def trk (h:Heap) (H:Hp):List Addr:=(Du h.objs.size).filter fun a=>(H a).isSome
noncomputable def hidT (h:Heap) (H:Hp):Heap:=PySem.W.hideAll h (trk h H)
theorem a4a (h:Heap) (H:Hp):(hidT h H).objs.size=h.objs.size:=PySem.W.hideAll_size _ _
theorem a5q {h:Heap}{H:Hp}{b:Addr}{o:Obj}(e:h.get? b=some o) (n:H b=none):(hidT h H).get? b=some o :=
 PySem.W.hideAll_get _ e fun hm=>by
   have q:(H b).isSome=true:=(CK.mp hm).2
   rw[n] at q;simp at q
theorem a7d {h:Heap}{H:Hp}{b:Addr}{o:Obj}(e:(hidT h H).get? b=some o):h.get? b=some o/\H b=none:=by
 have e':h.get? b=some o:=PySem.W.of_hideAll (trk h H) e
 refine⟨e',?_⟩
 cases q:H b with
 | none=>rfl
 | some x =>
   have hm:b∈trk h H:=List.mem_filter.mpr ⟨List.mem_range.mpr (Ap e'),by simp[q]⟩
   have z:(hidT h H).get? b=none:=PySem.W.hideAll_none (trk h H) hm
   rw[z] at e;cases e
noncomputable def a8q (g h:Heap) (L:Addr):List (Addr×Obj):=(Du h.objs.size).filterMap fun a=>if a=L\/(g.get? a).isSome=true then none else (h.get? a).map fun o=>(a,o)
noncomputable def rest (g h:Heap) (L d:Addr):List (Addr×Obj):=(a8q g h L).filter fun p=>decide (p.1≠d)
structure Mod (K:Ab) (mg:Str->Option Value) (base:Heap):Prop where
 kin:K.In base
 glob:base.Ns mainGlobals mg
 blt:∃mb,base.Ns builtinsNs mb/\∀x:Str,x ≠ "__name__" -> mb x=bootBuiltins x
 nolimit:base.NoLimit
structure Cx where
 prog:Program
 w:World
 K:Ab
 mg:Str->Option Value
 base:Heap
 A:Around
 N:List Str
 s₀:Shared
 H₀:Hp
 env:Env
 outer:List Env
 stack:List Env
 ex:List Addr
 fn:Str->Bool
 calm:Bool
 pn:List (Addr×Obj)
 xe:Value->Shared->Prop
noncomputable def frs (l:List Env):List Addr:=l.filterMap (·.frame)
noncomputable abbrev Cx.fs (X:Cx):List Addr:=frs X.outer
noncomputable def Vis (sc:Scope) (x:Str):Prop:=sc.names.lookup x=some .local\/sc.names.lookup x=some .cell\/sc.names.lookup x=some .free
noncomputable def Loc (sc:Scope) (x:Str):Prop:=sc.names.lookup x=some .local\/sc.names.lookup x=some .cell
noncomputable def Look (env:Env) (h:Heap) (m:Str->Option Value) (x:Str) (u:Value):Prop :=
 (env.kindOf x=some .local/\m x=some u)\/((env.kindOf x=some .cell\/env.kindOf x=some .free)/\∃c,env.cells.lookup x=some c/\h.IsCell c (some u))
structure Cx.Ok (X:Cx):Prop where
 mod:Mod X.K X.mg X.base
 kind:X.env.scope.kind=.function
 glob:X.env.globals=mainGlobals
 blt:X.env.builtins=builtinsNs
 above:X.s₀.heap.objs.size<=X.env.locals
 inj:∀x y c,X.env.cells.lookup x=some c->X.env.cells.lookup y=some c->x=y
 has:∀x,(X.env.kindOf x=some .cell\/X.env.kindOf x=some .free)->∃c,X.env.cells.lookup x=some c
 cab:∀x c,X.fn x=true->X.env.cells.lookup x=some c->X.s₀.heap.objs.size<=c
 hd:X.calm=true->X.A.handled=none
 frames:X.A.frames=some X.stack
 stk:X.stack=X.outer\/(X.stack=X.env::X.outer/\X.env.frame=some X.env.locals)
 exf:∀b∈X.ex,b≠X.env.locals/\∀x c,X.env.cells.lookup x=some c->c≠b
 bs:∀b o,X.base.get? b=some o->X.s₀.heap.get? b=some o/\X.H₀ b=none
 bsz:X.base.objs.size<=X.s₀.heap.objs.size
 noex:∀b o,X.base.get? b=some o->b∉X.ex
 exfs:∀b∈X.ex,b∉X.fs
 funs:X.s₀.heap.FunFrames X.base X.outer
 frf:∀b∈X.fs,X.H₀ b=none
structure Inv (X:Cx) (pins:List (Addr×Obj)) (σ:List (Option V)) (H:Hp) (s:Shared):Prop where
 ok:X.Ok
 os:s.os=X.s₀.os
 bare:AllBare s.gens
 base:Un X.fs X.ex X.H₀ H X.s₀.heap s.heap
 loc:∃m,s.heap.Ns X.env.locals m/\∀(i:Nat) (x:Str) (v:V),X.N[i]? = some x->σ[i]? = some (some v)->Vis X.env.scope x->∃u,RelV v u/\Look X.env s.heap m x u
 cell:∀x c,X.env.cells.lookup x=some c->∃v,s.heap.IsCell c v
 free:H X.env.locals=none
 freeC:∀x c,X.env.cells.lookup x=some c->H c=none
 pin:∀p∈X.pn++pins,s.heap.get? p.1=some p.2/\H p.1=none/\p.1≠X.env.locals/\p.1∉X.fs/\∀v,p.2.data≠.cell v
 hok:HOk X.prog X.w H s.heap
 len:σ.length=X.N.length
section
variable {X:Cx}{pins:List (Addr×Obj)}{σ:List (Option V)}{H H':Hp}{s:Shared}{h':Heap}
theorem Cx.Ok.nofr (ok:X.Ok) {b:Addr}{o:Obj}(e:X.base.get? b=some o):b∉X.fs:=fun hb=>by
 have:=(ok.funs.mem hb).1
 rw[e] at this;cases this
theorem Inv.bs (I:Inv X pins σ H s):∀b o,X.base.get? b=some o->s.heap.get? b=some o/\H b=none:=fun b o e =>
 ⟨I.base.keep b o (I.ok.bs b o e).1 (I.ok.bs b o e).2 (I.ok.nofr e) (I.ok.noex b o e),I.base.free b o (I.ok.bs b o e).1 (I.ok.bs b o e).2 (I.ok.noex b o e)⟩
theorem Inv.bk (I:Inv X pins σ H s):∀b o,X.base.get? b=some o->s.heap.get? b=some o:=fun b o e=>(I.bs b o e).1
theorem Inv.mod (I:Inv X pins σ H s):Mod X.K X.mg X.base:=I.ok.mod
theorem Inv.kIn (I:Inv X pins σ H s):X.K.In s.heap:=I.ok.mod.kin.keeps I.bk
theorem Inv.lt (I:Inv X pins σ H s):X.env.locals<s.heap.objs.size:=let ⟨_,hn,_⟩:=I.loc;hn.lt
theorem Inv.sz (I:Inv X pins σ H s):X.s₀.heap.objs.size<=s.heap.objs.size:=Ax I.ok.above (BV I.lt)
theorem Inv.nofs (I:Inv X pins σ H s) {a:Addr}(h:s.heap.objs.size<=a):a∉X.fs:=fun hb=>by
 obtain⟨_,o,ho,_⟩:=I.ok.funs.mem hb
 exact absurd (AC (Ap ho) (Ax I.sz h)) (Bi _)
theorem Inv.cne (I:Inv X pins σ H s):∀x c,X.env.cells.lookup x=some c->c≠X.env.locals:=fun x c e z=>by
 obtain⟨v,o,ho,hd⟩:=I.cell x c e
 obtain⟨m,⟨o',es,ep,ho',hd',_⟩,_⟩:=I.loc
 rw[z,ho'] at ho;cases ho;rw[hd'] at hd;cases hd
theorem Inv.funs (I:Inv X pins σ H s):s.heap.FunFrames X.base X.outer:=by
 have all:∀(l:List Env),(∀b∈frs l,b∈X.fs)->X.s₀.heap.FunFrames X.base l->s.heap.FunFrames X.base l:=by
   intro l
   induction l with
   | nil=>intro _ _;trivial
   | cons env r ih =>
     intro hs hl
     obtain⟨hk,⟨L,o,hf,hn,ho,hd⟩,hr⟩:=hl
     have hL:L∈X.fs:=hs L (by unfold frs;rw[Df,hf];exact Aj)
     obtain⟨sl,e⟩:=I.base.slot L o ho (I.ok.frf L hL) hL fun z=>I.ok.exfs L z hL
     exact⟨hk,⟨L,_,hf,hn,e,hd⟩,ih (fun b hb=>hs b (by unfold frs;rw[Df,hf];exact Ao _ hb)) hr⟩
 exact all X.outer (fun _ hb=>hb) I.ok.funs
theorem Inv.stack (I:Inv X pins σ H s):s.heap.FunFrames X.base X.stack:=by
 rcases I.ok.stk with e|⟨e,hf⟩
 . rw[e];exact I.funs
 . rw[e]
   obtain⟨m,hn,_⟩:=I.loc
   refine .cons (by rw[I.ok.kind];decide) hf hn ?_ I.funs
   exact Ep (Ax I.ok.bsz I.ok.above)
theorem Inv.stkSub (I:Inv X pins σ H s):∀b∈frs X.stack,b∈X.env.locals::X.fs:=fun b hb=>by
 rcases I.ok.stk with e|⟨e,hf⟩
 . rw[e] at hb;exact Ao _ hb
 . rw[e] at hb
   unfold frs at hb
   rw[Df,hf] at hb
   exact hb
theorem Inv.stkFree (I:Inv X pins σ H s):∀b∈frs X.stack,H b=none:=fun b hb=>by
 rcases Al.mp (I.stkSub b hb) with e|hb
 . rw[e];exact I.free
 . obtain⟨_,o,ho,_⟩:=I.ok.funs.mem hb
   exact I.base.free b o ho (I.ok.frf b hb) fun z=>I.ok.exfs b z hb
theorem Inv.step {g':Array GenState}{t':Nat}{d':Drawn}{ch:List Addr}(I:Inv X pins σ H s)
   (hch:∀b∈ch,(b∈X.ex\/X.s₀.heap.objs.size<=b)/\b≠X.env.locals/\(∀x c,X.env.cells.lookup x=some c->c≠b)/\∀p∈X.pn++pins,p.1≠b)
   (keep:∀b o,b≠X.env.locals->b∉X.fs->b∉ch->s.heap.get? b=some o->H b=none->h'.get? b=some o)
   (slot:∀b o,b≠X.env.locals->b∈X.fs->b∉ch->s.heap.get? b=some o->H b=none->∃sl,h'.get? b=some { o with slots:=sl }) (free:∀b o,b∉ch->s.heap.get? b=some o->H b=none->H' b=none)
   (there:∀b o,b∉ch->s.heap.get? b=some o->∃o',h'.get? b=some o')
   (tups:∀b xs,H b=some (.tup xs)->H' b=some (.tup xs)) (frzs:∀b o u,H b=some (.frz o u)->H' b=some (.frz o u)) (tbls:∀b ps,H b=some (.tbl ps)->∃more,H' b=some (.tbl (ps++more)))
   (ns:∀m,s.heap.Ns X.env.locals m->h'.Ns X.env.locals m) (hok:HOk X.prog X.w H' h') (hg:AllBare g') :
   Inv X pins σ H' { s with heap:=h',gens:=g',drawn:=d',toks:=t' }:=by
 have neL:∀b o,X.s₀.heap.get? b=some o->b≠X.env.locals:=fun b o e=>Az (AC (Ap e) I.ok.above)
 have neC:∀b o,X.s₀.heap.get? b=some o->b∉X.ex->b∉ch:=fun b o e hx hb=>by
   rcases (hch b hb).1 with z|z
   . exact hx z
   . exact absurd (AC (Ap e) z) (Bi _)
 have cellK:∀x c,X.env.cells.lookup x=some c->∀v,s.heap.IsCell c v->h'.IsCell c v:=fun x c e v ⟨o,ho,hd⟩=>by
   have nch:c∉ch:=fun z=>(hch c z).2.2.1 x c e rfl
   by_cases hc:c∈X.fs
   . obtain⟨sl,q⟩:=slot c o (I.cne x c e) hc nch ho (I.freeC x c e)
     exact⟨_,q,hd⟩
   . exact⟨o,keep c o (I.cne x c e) hc nch ho (I.freeC x c e),hd⟩
 refine⟨I.ok,I.os,hg,⟨fun b o e n hb hx=>?_,fun b o e n hb hx=>?_,fun b o e n hx=>?_,fun b o e hx=>?_,fun b xs e=>tups b xs (I.base.tups b xs e),fun b o xs e=>frzs b o xs (I.base.frzs b o xs e),fun b ps e=>?_⟩,?_,fun x c e=>?_,?_,fun x c e=>?_,fun p hp=>?_,hok,I.len⟩
 . exact keep b o (neL b o e) hb (neC b o e hx) (I.base.keep b o e n hb hx) (I.base.free b o e n hx)
 . obtain⟨sl,e1⟩:=I.base.slot b o e n hb hx
   obtain⟨sl',e2⟩:=slot b _ (neL b o e) hb (neC b o e hx) e1 (I.base.free b o e n hx)
   exact⟨sl',e2⟩
 . obtain⟨o',e1⟩:=I.base.there b o e hx
   exact free b o' (neC b o e hx) e1 (I.base.free b o e n hx)
 . obtain⟨o',e1⟩:=I.base.there b o e hx
   exact there b o' (neC b o e hx) e1
 . obtain⟨m1,e1⟩:=I.base.tbls b ps e
   obtain⟨m2,e2⟩:=tbls b _ e1
   exact⟨m1++m2,by rw[e2,Array.append_assoc]⟩
 . obtain⟨m,hn,hl⟩:=I.loc
   refine⟨m,ns m hn,fun i x v e1 e2 e3=>?_⟩
   obtain⟨u,r,l⟩:=hl i x v e1 e2 e3
   refine⟨u,r,?_⟩
   rcases l with l|⟨k,c,e,z⟩
   . exact .inl l
   . exact .inr ⟨k,c,e,cellK x c e _ z⟩
 . obtain⟨v,z⟩:=I.cell x c e
   exact⟨v,cellK x c e v z⟩
 . obtain⟨m,⟨o,_,_,ho,_⟩,_⟩:=I.loc
   exact free _ o (fun z=>(hch _ z).2.1 rfl) ho I.free
 . obtain⟨v,o,ho,hd⟩:=I.cell x c e
   exact free c o (fun z=>(hch c z).2.2.1 x c e rfl) ho (I.freeC x c e)
 . obtain⟨e,n,ne,nf,d⟩:=I.pin p hp
   have nch:p.1∉ch:=fun z=>(hch p.1 z).2.2.2 p hp rfl
   exact⟨keep p.1 p.2 ne nf nch e n,free p.1 p.2 nch e n,ne,nf,d⟩
theorem Inv.un {t':Nat}(I:Inv X pins σ H s) (u:Un X.fs [] H H' s.heap h') (hok:HOk X.prog X.w H' h'):Inv X pins σ H' { s with heap:=h',toks:=t' }:=by
 obtain⟨m,⟨o,es,ep,ho,r⟩,_⟩:=id I.loc
 obtain⟨sl,hL⟩:=u.any ho I.free (by simp)
 exact I.step (g':=s.gens) (d':=s.drawn) (ch:=[]) (fun _ z=>nomatch z) (fun b o _ hb _ e n=>u.keep b o e n hb (by simp)) (fun b o _ hb _ e n=>u.slot b o e n hb (by simp)) (fun b o _ e n=>u.free b o e n (by simp)) (fun b o _ e=>u.there b o e (by simp)) u.tups u.frzs u.tbls (fun m' hm=>by
   obtain⟨o',es',ep',ho',r'⟩:=hm
   rw[ho] at ho';cases ho'
   exact⟨_,es',ep',hL,r'⟩) hok I.bare
theorem Inv.call {g':Array GenState}{t':Nat}{d':Drawn}{ch:List Addr}(I:Inv X pins σ H s) (u:Un (frs X.stack) ch H H' s.heap h') (hok:HOk X.prog X.w H' h') (hg:AllBare g')
   (hch:∀b∈ch,(b∈X.ex\/X.s₀.heap.objs.size<=b)/\b≠X.env.locals/\(∀x c,X.env.cells.lookup x=some c->c≠b)/\∀p∈X.pn++pins,p.1≠b) :
   Inv X pins σ H' { s with heap:=h',gens:=g',drawn:=d',toks:=t' }:=by
 obtain⟨m,⟨o,es,ep,ho,r⟩,_⟩:=id I.loc
 obtain⟨sl,hL⟩:=u.any ho I.free fun z=>(hch _ z).2.1 rfl
 exact I.step (ch:=ch) hch (fun b o hL hb hc e n=>u.keep b o e n (fun z=>(Al.mp (I.stkSub b z)).elim hL hb) hc) (fun b o _ _ hc e n=>u.any e n hc) (fun b o hc e n=>u.free b o e n hc) (fun b o hc e=>u.there b o e hc) u.tups u.frzs u.tbls (fun m' hm=>by
   obtain⟨o',es',ep',ho',r'⟩:=hm
   rw[ho] at ho';cases ho'
   exact⟨_,es',ep',hL,r'⟩) hok hg
theorem Inv.turned {t':Nat}{it:Addr}(I:Inv X pins σ H s) (k:∀b o,b≠it->s.heap.get? b=some o->h'.get? b=some o) (hn:H it=none) (hL:it≠X.env.locals)
   (h1:it∈X.ex\/X.s₀.heap.objs.size<=it) (h2:∀x c,X.env.cells.lookup x=some c->c≠it) (h3:∀p∈X.pn++pins,p.1≠it):Inv X pins σ H { s with heap:=h',toks:=t' }:=by
 have nit:∀b u,H b=some u->b≠it:=fun b u e z=>by rw[z,hn] at e;cases e
 refine I.step (g':=s.gens) (d':=s.drawn) (ch:=[it]) (fun b hb=>?_) (fun b o _ _ hc e _=>k b o (fun z=>hc (by simp[z])) e) (fun b o _ _ hc e _=>⟨o.slots,k b o (fun z=>hc (by simp[z])) e⟩) (fun _ _ _ _ n=>n)
   (fun b o hc e=>⟨o,k b o (fun z=>hc (by simp[z])) e⟩) (fun _ _ e=>e) (fun _ _ _ e=>e) (fun b ps e=>⟨#[],by rw[e];simp⟩) (fun m hm=>?_) (fun b u e=>?_) I.bare
 . have e:b=it:=by simpa using hb
   subst e
   exact⟨h1,hL,h2,h3⟩
 . obtain⟨o,es,ep,ho,r⟩:=hm
   exact⟨o,es,ep,k _ o (AO hL) ho,r⟩
 . refine (I.hok b u e).stay (fun c v hc q=>k c v ?_ q) (fun _ q=>q) fun _ _ q=>q
   rcases hc with z|z
   . rw[z];exact nit b u e
   . exact nit c _ z
theorem Inv.tok (I:Inv X pins σ H s) (t:Nat):Inv X pins σ H { s with toks:=t }:=I.un (h':=s.heap) (t':=t) Un.refl I.hok
theorem Inv.kept {t':Nat}(I:Inv X pins σ H s) (k:∀b u,s.heap.get? b=some u->h'.get? b=some u):Inv X pins σ H { s with heap:=h',toks:=t' }:=I.un (Un.kept k) (I.hok.kept k)
theorem Inv.laid {a:Addr}{o:HO}{t':Nat}(I:Inv X pins σ H s) (k:∀b u,s.heap.get? b=some u->h'.get? b=some u) (hp:s.heap.objs.size<=a) (new:ObjOk X.prog X.w (upd H a o) h' a o) :
   Inv X pins σ (upd H a o) { s with heap:=h',toks:=t' }:=I.un (Un.laid k hp (I.hok.fresh hp)) (I.hok.laid k hp new)
theorem Inv.write {x e:Addr}{o:HO}{t':Nat}(I:Inv X pins σ H s) (mu:Mut (H x)) (he:e=x\/H e=some (.own x)) (k:∀b u,b≠e->s.heap.get? b=some u->h'.get? b=some u) (heo:∃u,h'.get? e=some u)
   (new:ObjOk X.prog X.w (upd H x o) h' x o):Inv X pins σ (upd H x o) { s with heap:=h',toks:=t' }:=I.un (Un.write mu he k heo) (I.hok.write mu he k heo new)
theorem Inv.pins_of {pins':List (Addr×Obj)}(I:Inv X pins σ H s) (h:∀p∈pins',s.heap.get? p.1=some p.2/\H p.1=none/\p.1≠X.env.locals/\p.1∉X.fs/\∀v,p.2.data≠.cell v):Inv X pins' σ H s :=
 ⟨I.ok,I.os,I.bare,I.base,I.loc,I.cell,I.free,I.freeC,fun p hp=>(As.mp hp).elim (fun z=>I.pin p (AW _ z)) (h p),I.hok,I.len⟩
theorem x6 {N:List Str}(hN:N.Nodup) {i j:Nat}{x:Str}(a:N[i]? = some x) (b:N[j]? = some x):i=j:=by
 obtain⟨h1,e1⟩:=Aq.mp a
 obtain⟨h2,e2⟩:=Aq.mp b
 exact (List.getElem_inj hN).mp (e1.trans e2.symm)
theorem a4t {M:Model}{A:Around}{E:Value->Shared->Prop}{i:Nat}{x:Str}{v:V}{u:Value}{Q:Unit->Shared->Prop}(I:Inv X pins σ H s) (hN:X.N.Nodup) (hi:X.N[i]? = some x) (hx:Loc X.env.scope x) (r:RelV v u)
   (h:∀s',Inv X pins (σ.set i (some v)) H s'->(∃a,Ct a s.heap s'.heap/\(a=X.env.locals\/X.env.cells.lookup x=some a))->Q () s') (hf:X.fn x=true\/X.env.scope.names.lookup x=some .local:=by first|exact .inl rfl|exact .inr rfl|assumption):wpAny M A (storeName X.env x u) Q E s:=by
 obtain⟨m,hn,hl⟩:=id I.loc
 have hcls:(X.env.scope.kind == .class || (X.env.scope.kind == .module && X.env.locals != X.env.globals))=false:=by rw[I.ok.kind];rfl
 have hiσ:i<σ.length:=by rw[I.len];exact (Aq.mp hi).1
 have cne:=I.cne
 have tracked:∀{a:Addr} {h':Heap},(∃o,s.heap.get? a=some o/\H a=none)->Ct a s.heap h'->HOk X.prog X.w H h':=fun {a h'} ha hs b ob e=>by
   obtain⟨_,_,hfree⟩:=ha
   refine (I.hok b ob e).stay (fun c w' hc q=>(hs.2 c ?_).trans q) (fun _ q=>q) fun _ _ q=>q
   rintro rfl
   rcases hc with rfl|hc
   . rw[hfree] at e;cases e
   . rw[hfree] at hc;cases hc
 rcases hx with hk|hk
 . refine wpAny_storeName_local hk hn (fun h' hn' hs=>?_) hcls
   obtain⟨oL,_,_,hoL,_⟩:=id hn
   refine h _ ⟨I.ok,I.os,I.bare,⟨fun b o e n hb hx=>?_,fun b o e n hb hx=>?_,I.base.free,fun b o e hx=>?_,I.base.tups,I.base.frzs,I.base.tbls⟩,⟨_,hn',fun j y v' e1 e2 e3=>?_⟩,fun y c e=>?_,I.free,I.freeC,fun p hp=>?_,tracked ⟨oL,hoL,I.free⟩ hs,by simpa using I.len⟩ ⟨_,hs,.inl rfl⟩
   . exact (hs.2 b (Az (AC (Ap e) I.ok.above))).trans (I.base.keep b o e n hb hx)
   . obtain⟨sl,e1⟩:=I.base.slot b o e n hb hx
     exact⟨sl,(hs.2 b (Az (AC (Ap e) I.ok.above))).trans e1⟩
   . obtain⟨o',e1⟩:=I.base.there b o e hx
     exact⟨o',(hs.2 b (Az (AC (Ap e) I.ok.above))).trans e1⟩
   . by_cases hj:j=i
     . subst hj
       rw[hi] at e1;cases e1
       rw[FX hiσ] at e2
       cases e2
       exact⟨u,r,.inl ⟨hk,by simp⟩⟩
     . rw[GY (AO hj)] at e2
       obtain⟨u',r',q⟩:=hl j y v' e1 e2 e3
       refine⟨u',r',?_⟩
       rcases q with⟨k,e⟩|⟨k,c,e,z⟩
       . refine .inl ⟨k,?_⟩
         have:y≠x:=fun e=>hj (x6 hN e1 (e ▸ hi))
         simp[this,e]
       . exact .inr ⟨k,c,e,z.sameBut hs (cne y c e)⟩
   . obtain⟨w',z⟩:=I.cell y c e
     exact⟨w',z.sameBut hs (cne y c e)⟩
   . obtain⟨e,n,ne,nf,d⟩:=I.pin p hp
     exact⟨(hs.2 p.1 ne).trans e,n,ne,nf,d⟩
 . have hfn:X.fn x=true:=by
     rcases hf with z|z
     . exact z
     . rw[z] at hk;cases hk
   obtain⟨c,hc⟩:=I.ok.has x (.inl hk)
   obtain⟨w',z⟩:=I.cell x c hc
   refine wpAny_storeName_cell I.ok.kind hk hc z (fun h' hc' hs=>?_)
   obtain⟨oc,hoc,hocd⟩:=id z
   refine h { s with heap:=h' } ⟨I.ok,I.os,I.bare,⟨fun b o e n hb hx=>?_,fun b o e n hb hx=>?_,I.base.free,fun b o e hx=>?_,I.base.tups,I.base.frzs,I.base.tbls⟩,⟨m,hn.sameBut hs (AO (cne x c hc)),fun j y v' e1 e2 e3=>?_⟩,fun y c' e=>?_,I.free,I.freeC,fun p hp=>?_,tracked ⟨oc,hoc,I.freeC x c hc⟩ hs,by simpa using I.len⟩ ⟨c,hs,.inr hc⟩
   . exact (hs.2 b (Az (AC (Ap e) (I.ok.cab x c hfn hc)))).trans (I.base.keep b o e n hb hx)
   . obtain⟨sl,e1⟩:=I.base.slot b o e n hb hx
     exact⟨sl,(hs.2 b (Az (AC (Ap e) (I.ok.cab x c hfn hc)))).trans e1⟩
   . obtain⟨o',e1⟩:=I.base.there b o e hx
     exact⟨o',(hs.2 b (Az (AC (Ap e) (I.ok.cab x c hfn hc)))).trans e1⟩
   . by_cases hj:j=i
     . subst hj
       rw[hi] at e1;cases e1
       rw[FX hiσ] at e2
       cases e2
       exact⟨u,r,.inr ⟨.inl hk,c,hc,hc'⟩⟩
     . rw[GY (AO hj)] at e2
       obtain⟨u',r',q⟩:=hl j y v' e1 e2 e3
       refine⟨u',r',?_⟩
       rcases q with q|⟨k,c',e,z'⟩
       . exact .inl q
       . refine .inr ⟨k,c',e,z'.sameBut hs ?_⟩
         rintro rfl
         exact hj (x6 hN e1 (I.ok.inj _ _ _ e hc ▸ hi))
   . by_cases hcc:c'=c
     . subst hcc;exact⟨_,hc'⟩
     . obtain⟨w2,z2⟩:=I.cell y c' e
       exact⟨w2,z2.sameBut hs hcc⟩
   . obtain⟨e,n,ne,nf,d⟩:=I.pin p hp
     refine⟨(hs.2 p.1 ?_).trans e,n,ne,nf,d⟩
     intro q
     rw[q,hoc] at e
     have q':oc=p.2:=Av e
     exact d w' (by rw[<- q'];exact hocd)
theorem qg {M:Model}{A:Around}{E:Value->Shared->Prop}{i:Nat}{x:Str}{v:V}{u:Value}{Q:Unit->Shared->Prop}(I:Inv X pins σ H s) (hN:X.N.Nodup) (hi:X.N[i]? = some x) (hx:Loc X.env.scope x) (r:RelV v u)
   (h:∀s',Inv X pins (σ.set i (some v)) H s'->Q () s') (hf:X.fn x=true\/X.env.scope.names.lookup x=some .local:=by first|exact .inl rfl|exact .inr rfl|assumption):wpAny M A (storeName X.env x u) Q E s :=
 a4t I hN hi hx r (fun s' I' _=>h s' I') hf
theorem Inv.call' {s':Shared}{ch:List Addr}(I:Inv X pins σ H s) (ho:s'.os=s.os) (u:Un (frs X.stack) ch H H' s.heap s'.heap) (hok:HOk X.prog X.w H' s'.heap) (hg:AllBare s'.gens)
   (hch:∀b∈ch,(b∈X.ex\/X.s₀.heap.objs.size<=b)/\b≠X.env.locals/\(∀x c,X.env.cells.lookup x=some c->c≠b)/\∀p∈X.pn++pins,p.1≠b):Inv X pins σ H' s':=by
 obtain⟨h',g',d',t',o'⟩:=s'
 have e:o'=s.os:=ho
 subst e
 exact I.call (g':=g') (t':=t') (d':=d') u hok hg hch
end
abbrev XK:=Value->Option Addr->Hp->Prop
abbrev St:=List (Option V)
abbrev VK:=V->Hp->Prop
abbrev TE:=St->Hp->VK->Prop
abbrev TT:=St->Hp->(Bool->Hp->Prop)->Prop
abbrev TA:=St->Hp->(List V->Hp->Prop)->Prop
structure Ends where
 nx:St->Hp->Prop
 rt:VK
 bk:St->Hp->Prop:=fun _ _=>False
 ct:St->Hp->Prop:=fun _ _=>False
abbrev TS:=Ends->St->Hp->Prop
noncomputable def EP (X:Cx) (pins:List (Addr×Obj)) (σ:St) (Q:VK) (u:Value) (s':Shared):Prop:=∃v H',Inv X pins σ H' s'/\RelV v u/\Q v H'
noncomputable def TP (X:Cx) (pins:List (Addr×Obj)) (σ:St) (Q:Bool->Hp->Prop) (b:Bool) (s':Shared):Prop:=∃H',Inv X pins σ H' s'/\Q b H'
noncomputable def AP (X:Cx) (pins:List (Addr×Obj)) (σ:St) (Q:List V->Hp->Prop) (us:List Value) (s':Shared):Prop:=∃vs H',Inv X pins σ H' s'/\Vals vs us/\Q vs H'
noncomputable def SP (X:Cx) (pins:List (Addr×Obj)) (D:Ends) (f:Flow) (s':Shared):Prop :=
 match f with
 | .next=>∃σ' H',Inv X pins σ' H' s'/\D.nx σ' H'
 | .brk=>∃σ' H',Inv X pins σ' H' s'/\D.bk σ' H'
 | .cont=>∃σ' H',Inv X pins σ' H' s'/\D.ct σ' H'
 | .ret u=>∃v σ' H',Inv X pins σ' H' s'/\RelV v u/\D.rt v H'
noncomputable def PE (X:Cx) (e:Expr) (t:TE):Prop :=
 ∀(pins:List (Addr×Obj)) (s:Shared) (σ:St) (H:Hp) (Q:VK),Inv X pins σ H s->t σ H Q->wpAny (model X.prog X.w) X.A (eval e X.env) (EP X pins σ Q) X.xe s
noncomputable def PT (X:Cx) (e:Expr) (t:TT):Prop :=
 ∀(pins:List (Addr×Obj)) (s:Shared) (σ:St) (H:Hp) (Q:Bool->Hp->Prop),Inv X pins σ H s->t σ H Q->wpAny (model X.prog X.w) X.A (isTrue e X.env (eval e X.env)) (TP X pins σ Q) X.xe s
noncomputable def PW (X:Cx) (e:Expr) (t:TT):Prop :=
 ∀(whole:Sem Value) (pins:List (Addr×Obj)) (s:Shared) (σ:St) (H:Hp) (Q:Bool->Hp->Prop),Inv X pins σ H s->t σ H Q->wpAny (model X.prog X.w) X.A (isTrue e X.env whole) (TP X pins σ Q) X.xe s
theorem PW.pt {X:Cx}{e:Expr}{t:TT}(h:PW X e t):PT X e t:=h _
noncomputable def PA (X:Cx) (es:List Expr) (t:TA):Prop :=
 ∀(pos:Pos) (pins:List (Addr×Obj)) (s:Shared) (σ:St) (H:Hp) (Q:List V->Hp->Prop),Inv X pins σ H s->t σ H Q->wpAny (model X.prog X.w) X.A (spliced (backTo pos (starEach es X.env))) (AP X pins σ Q) X.xe s
noncomputable def PS (X:Cx) (st:Stmt) (t:TS):Prop :=
 ∀(pins:List (Addr×Obj)) (s:Shared) (σ:St) (H:Hp) (D:Ends),Inv X pins σ H s->t D σ H->wpAny (model X.prog X.w) X.A (exec st X.env) (SP X pins D) X.xe s
noncomputable def PSs (X:Cx) (st:List Stmt) (t:TS):Prop :=
 ∀(pins:List (Addr×Obj)) (s:Shared) (σ:St) (H:Hp) (D:Ends),Inv X pins σ H s->t D σ H->wpAny (model X.prog X.w) X.A (execs st X.env) (SP X pins D) X.xe s
theorem thn {α:Type}{t:Sem α}{Q Q':α->Shared->Prop}{M:Model}{A:Around}{E:Value->Shared->Prop}{s:Shared}(h:wpAny M A t Q E s) (hQ:∀a s,Q a s->Q' a s):wpAny M A t Q' E s:=BR h hQ fun _ _ x=>x
section
variable {X:Cx}
noncomputable def tVar (i:Nat):TE:=fun σ H Q=>∃v,σ[i]? = some (some v)/\Q v H
noncomputable def tC (v:V):TE:=fun _ H Q=>Q v H
theorem aaf {i:Nat}{x:Str}{pos:Pos}(hN:X.N[i]? = some x) (hv:Vis X.env.scope x) (hd:(x == ("__debug__" : Str))=false:=by decide) (hcd:(x == ("__classdict__" : Str))=false:=by decide):PE X (.Name x pos) (tVar i):=by
 intro pins s σ H Q I h
 obtain⟨v,e,h⟩:=h
 obtain⟨m,hn,hl⟩:=I.loc
 obtain⟨u,r,l⟩:=hl i x v hN e hv
 have fin:EP X pins σ Q u s:=⟨v,H,I,r,h⟩
 rcases l with⟨hk,hm⟩|⟨hk,c,hc,hcell⟩
 . exact Io (wpAny_loadName_local I.ok.kind hk hn hm fin) hd
 . rcases hk with hk|hk
   . exact Io (wpAny_loadName_cell I.ok.kind hk hc hcell fin) hd
   . exact Io (wpAny_loadName_free I.ok.kind hk hc hcell fin hcd) hd
theorem jl {i j pos}:PE X (.Constant (.int i) j pos) (tC (.int i)):=fun _ _ _ H _ I h=>wpAny_Constant_int ⟨.int i,H,I.tok _,⟨_,rfl⟩,h⟩
theorem a0q {b j pos}:PE X (.Constant (.bool b) j pos) (tC (.bl b)):=fun _ _ _ H _ I h=>Constant_bool ⟨.bl b,H,I,rfl,h⟩
theorem a90 {j pos}:PE X (.Constant .none j pos) (tC .non):=fun _ _ _ H _ I h=>Constant_none ⟨.non,H,I,rfl,h⟩
theorem wz {x j pos}:PE X (.Constant (.str x) j pos) (tC (.str x)):=fun _ _ _ H _ I h=>Calls.Constant_str ⟨.str x,H,I.tok _,⟨_,rfl⟩,h⟩
noncomputable def Gl (X:Cx) (x:Str):Prop:=X.env.kindOf x=some .globalImplicit
theorem si {E:Value->Shared->Prop}{pins:List (Addr×Obj)}{s:Shared}{σ:St}{H:Hp}{x:Str}{u:Value}{pos:Pos}{Q:Value->Shared->Prop}(I:Inv X pins σ H s) (hg:Gl X x) (hm:X.mg x=some u) (h:Q u s)
   (hd:(x == ("__debug__" : Str))=false:=by decide):wpAny (model X.prog X.w) X.A (eval (.Name x pos) X.env) Q E s :=
 EY I.ok.kind hg (Calls.loadGlobal_global (by rw[I.ok.glob];exact I.mod.glob.keeps I.bk) hm h) hd
theorem ii {E:Value->Shared->Prop}{pins:List (Addr×Obj)}{s:Shared}{σ:St}{H:Hp}{x:Str}{u:Value}{pos:Pos}{Q:Value->Shared->Prop}(I:Inv X pins σ H s) (hg:Gl X x) (hm:X.mg x=none) (hv:bootBuiltins x=some u) (h:Q u s)
   (hn:x ≠ "__name__" := by decide) (hd:(x == ("__debug__" : Str))=false:=by decide):wpAny (model X.prog X.w) X.A (eval (.Name x pos) X.env) Q E s:=by
 obtain⟨mb,h1,h2⟩:=I.mod.blt
 exact EY I.ok.kind hg (Calls.loadGlobal_builtin (by rw[I.ok.glob];exact I.mod.glob.keeps I.bk) hm (by rw[I.ok.blt];exact h1.keeps I.bk) ((h2 x hn).trans hv) h) hd
theorem a7w {x:Str}{v:V}{u:Value}{pos:Pos}(hg:Gl X x) (hm:X.mg x=some u) (r:RelV v u) (hd:(x == ("__debug__" : Str))=false:=by decide):PE X (.Name x pos) (tC v) :=
 fun _ _ _ H _ I h=>si I hg hm ⟨v,H,I,r,h⟩ hd
theorem a7z {x:Str}{v:V}{u:Value}{pos:Pos}(hg:Gl X x) (hm:X.mg x=none) (hv:bootBuiltins x=some u) (r:RelV v u) (hn:x ≠ "__name__" := by decide) (hd:(x == ("__debug__" : Str))=false:=by decide):PE X (.Name x pos) (tC v) :=
 fun _ _ _ H _ I h=>ii I hg hm hv ⟨v,H,I,r,h⟩ hn hd
variable {a b:Expr}{ta tb:TE}{pos:Pos}
noncomputable def PC (X:Cx) (op:CmpOp) (a b:Expr) (t:TE):Prop :=
 ∀(pins:List (Addr×Obj)) (s:Shared) (σ:St) (H:Hp) (Q:VK),Inv X pins σ H s->t σ H Q->
   wpAny (model X.prog X.w) X.A (eval a X.env) (fun v s₁=>wpAny (model X.prog X.w) X.A (eval b X.env) (fun u s₂=>wpAny (model X.prog X.w) X.A (compareOp op v u) (EP X pins σ Q) X.xe s₂) X.xe s₁) X.xe s
noncomputable def tB (t:TE):TT:=fun σ H Q=>t σ H fun x H1=>∃c,x=.bl c/\Q c H1
theorem a2j {op:CmpOp}{t:TE}(h:PC X op a b t) (h1:behindInMarks op b=false:=by first|exact nobehind _ (by decide) (by decide)|rfl):PT X (.Compare a [op] [b] pos) (tB t):=by
 intro pins s σ H Q I hw
 refine Gp (thn (h pins s σ H _ I hw) fun v s1 h1=>thn h1 fun u s2 h2=>thn h2 fun c s3 ⟨x,H1,I1,r1,q1⟩=>?_) h1
 obtain⟨d,rfl,q⟩:=q1
 cases r1
 exact BH ⟨H1,I1,q⟩
theorem aa9 {e:Expr}{t:TE}(h:PE X e t) (he:∀whole,isTrue e X.env whole=(do let v<-whole;standAt e.pos;holding [v] (truthy v)):=by intro _;rfl):PT X e (tB t):=by
 intro pins s σ H Q I hw
 refine isTrue_plain (thn (h pins s σ H _ I hw) fun v s1 ⟨x,H1,I1,r1,q1⟩=>?_) (he _)
 obtain⟨d,rfl,q⟩:=q1
 cases r1
 exact BH ⟨H1,I1,q⟩
variable {tA tB':TT}{rest:List Expr}
noncomputable def tAnd (t u:TT):TT:=fun σ H Q=>t σ H fun c H1=>if c=true then u σ H1 Q else Q false H1
noncomputable def tOr (t u:TT):TT:=fun σ H Q=>t σ H fun c H1=>if c=true then Q true H1 else u σ H1 Q
noncomputable def tNot (t:TT):TT:=fun σ H Q=>t σ H fun c H1=>Q (!c) H1
theorem a8i (ha:PT X a tA):PW X (.BoolOp .And [a] pos) tA:=by
 intro wh pins s σ H Q I h
 refine isTrue_and (thn (ha pins s σ H Q I h) fun c s1 e=>?_)
 cases c with
 | true=>exact isTrue_and_nil e
 | false=>exact e
theorem a4s (ha:PT X a tA):PW X (.BoolOp .Or [a] pos) tA:=by
 intro wh pins s σ H Q I h
 refine isTrue_or (thn (ha pins s σ H Q I h) fun c s1 e=>?_)
 cases c with
 | false=>exact isTrue_or_nil e
 | true=>exact e
theorem aaa (ha:PT X a tA) (hb:PW X (.BoolOp .And (b::rest) pos) tB'):PW X (.BoolOp .And (a::b::rest) pos) (tAnd tA tB'):=by
 intro wh pins s σ H Q I h
 refine isTrue_and (thn (ha pins s σ H _ I h) fun c s1 ⟨H1,I1,q1⟩=>?_)
 cases c with
 | true=>exact hb wh pins s1 σ H1 Q I1 q1
 | false=>exact⟨H1,I1,q1⟩
theorem a0f (ha:PT X a tA) (hb:PW X (.BoolOp .Or (b::rest) pos) tB'):PW X (.BoolOp .Or (a::b::rest) pos) (tOr tA tB'):=by
 intro wh pins s σ H Q I h
 refine isTrue_or (thn (ha pins s σ H _ I h) fun c s1 ⟨H1,I1,q1⟩=>?_)
 cases c with
 | true=>exact⟨H1,I1,q1⟩
 | false=>exact hb wh pins s1 σ H1 Q I1 q1
theorem a9n (ha:PT X a tA):PT X (.UnaryOp .Not a pos) (tNot tA):=by
 intro pins s σ H Q I h
 exact isTrue_not (ha pins s σ H (fun c H1=>Q (!c) H1) I h)
noncomputable def a6y (ta tb:TE):TE:=fun σ H Q=>ta σ H fun x H1=>∃c,x=.bl c/\if c=true then tb σ H1 Q else Q (.bl false) H1
noncomputable def tOrV (ta tb:TE):TE:=fun σ H Q=>ta σ H fun x H1=>∃c,x=.bl c/\if c=true then Q (.bl true) H1 else tb σ H1 Q
noncomputable def a74 (ta:TE):TE:=fun σ H Q=>ta σ H fun x H1=>∃c,x=.bl c/\Q (.bl (!c)) H1
theorem vt {op} {t:TE}(h:PE X a t):PE X (.BoolOp op [a] pos) t:=fun pins s σ H Q I hw=>BoolOp_one (h pins s σ H Q I hw)
theorem a4u (ha:PE X a ta) (hb:PE X (.BoolOp .And (b::rest) pos) tb):PE X (.BoolOp .And (a::b::rest) pos) (a6y ta tb):=by
 intro pins s σ H Q I h
 refine BoolOp_and (thn (ha pins s σ H _ I h) fun v s1 ⟨x,H1,I1,r1,q1⟩=>?_)
 obtain⟨c,rfl,q1⟩:=q1
 cases r1
 refine BH ?_
 cases c with
 | true=>exact hb pins s1 σ H1 Q I1 q1
 | false=>exact⟨.bl false,H1,I1,rfl,q1⟩
theorem aax (ha:PE X a ta) (hb:PE X (.BoolOp .Or (b::rest) pos) tb):PE X (.BoolOp .Or (a::b::rest) pos) (tOrV ta tb):=by
 intro pins s σ H Q I h
 refine BoolOp_or (thn (ha pins s σ H _ I h) fun v s1 ⟨x,H1,I1,r1,q1⟩=>?_)
 obtain⟨c,rfl,q1⟩:=q1
 cases r1
 refine BH ?_
 cases c with
 | false=>exact hb pins s1 σ H1 Q I1 q1
 | true=>exact⟨.bl true,H1,I1,rfl,q1⟩
theorem a93 (ha:PE X a ta):PE X (.UnaryOp .Not a pos) (a74 ta):=by
 intro pins s σ H Q I h
 refine UnaryOp_ (thn (ha pins s σ H _ I h) fun v s1 ⟨x,H1,I1,r1,q1⟩=>?_)
 obtain⟨c,rfl,q1⟩:=q1
 cases r1
 exact not_of (BH ⟨.bl (!c),H1,I1,rfl,q1⟩)
noncomputable def tIf (t:TT) (ta tb:TE):TE:=fun σ H Q=>t σ H fun c H1=>if c=true then ta σ H1 Q else tb σ H1 Q
theorem a5y {c:Expr}(hc:PT X c tA) (ha:PE X a ta) (hb:PE X b tb):PE X (.IfExp c a b pos) (tIf tA ta tb):=by
 intro pins s σ H Q I h
 refine wpAny_IfExp (thn (hc pins s σ H _ I h) fun d s1 ⟨H1,I1,q1⟩=>?_)
 cases d with
 | true=>exact ha pins s1 σ H1 Q I1 q1
 | false=>exact hb pins s1 σ H1 Q I1 q1
end
noncomputable def SqL (K:Ab) (H:Hp) (a:Addr) (xs:List V):Prop :=
 Rd H a (.lst xs)\/
   ∃(o:Obj) (its:Array Value) (n:Nat),K.lookup a=some o/\o.cls=.type "list" /\ o.dict=none/\o.data=.seq its n/\its.size<=sizeLine/\Vals xs its.toList
noncomputable def SqT (K:Ab) (H:Hp) (a:Addr) (xs:List V):Prop :=
 Rd H a (.tup xs)\/
   ∃(o:Obj) (its:Array Value) (n:Nat),K.lookup a=some o/\o.cls=.type "tuple" /\ o.data=.seq its n/\its.size<=sizeLine/\Vals xs its.toList
noncomputable def absV:Value->Option V
 | .none=>some .non
 | .bool b=>some (.bl b)
 | .int i _=>some (.int i)
 | .str x _=>some (.str x)
 | .bytes b _=>some (.byt b)
 | .float b _=>some (.flt b)
 | .ref a=>some (.ref a)
 | .type n=>some (.ty n)
 | _=>none
theorem RelV.abs {x:V}{u:Value}(r:RelV x u):absV u=some x:=by
 cases x with
 | non=>cases r;rfl
 | bl _=>cases r;rfl
 | int _=>obtain⟨t,rfl⟩:=r;rfl
 | str _=>obtain⟨t,rfl⟩:=r;rfl
 | byt _=>obtain⟨t,rfl⟩:=r;rfl
 | flt _=>obtain⟨t,rfl⟩:=r;rfl
 | ref _=>cases r;rfl
 | ty _=>cases r;rfl
theorem RelV.inj {x y:V}{u:Value}(r:RelV x u) (q:RelV y u):x=y:=Av (r.abs.symm.trans q.abs)
theorem Vals.inj:∀{xs ys:List V}{us:List Value},Vals xs us->Vals ys us->xs=ys
 | _,_,_,.nil,.nil=>rfl
 | _,_,_,.cons r t,.cons r' t'=>by rw[r.inj r',Vals.inj t t']
section
variable {X:Cx}{pins:List (Addr×Obj)}{σ:St}{H:Hp}{s:Shared}{a:Addr}{xs ys:List V}
theorem SqL.of {K:Ab}(h:H a=some (.lst xs)):SqL K H a xs:=.inl (.inl h)
theorem SqT.of {K:Ab}(h:H a=some (.tup xs)):SqT K H a xs:=.inl (.inl h)
theorem Inv.list (I:Inv X pins σ H s) (h:SqL X.K H a xs):∃its:List Value,Vals xs its/\PlainL s.heap a its.toArray/\xs.length<=sizeLine:=by
 rcases h with h|⟨o,its,n,hk,hc,hd,hs,hz,r⟩
 . obtain⟨z,its,n,r,e⟩:=h.ok I.hok
   exact⟨its,r,⟨_,n,e,rfl,rfl,rfl⟩,z⟩
 . refine⟨its.toList,r,⟨o,n,I.kIn a o hk,hc,hd,by simpa using hs⟩,?_⟩
   have e:=r.length
   simp only[AU] at e
   omega
theorem Inv.tuple (I:Inv X pins σ H s) (h:SqT X.K H a xs):∃its:List Value,Vals xs its/\IsTup s.heap a its.toArray/\xs.length<=sizeLine:=by
 rcases h with h|⟨o,its,n,hk,hc,hs,hz,r⟩
 . obtain⟨z,its,r,p⟩:=h.ok I.hok
   exact⟨its,r,p,z⟩
 . refine⟨its.toList,r,⟨o,I.kIn a o hk,hc,n,by simpa using hs⟩,?_⟩
   have e:=r.length
   simp only[AU] at e
   omega
theorem Inv.list_inj (I:Inv X pins σ H s) (h:SqL X.K H a xs) (h':SqL X.K H a ys):xs=ys:=by
 obtain⟨its,r,⟨o,n,e,_,_,d⟩,_⟩:=I.list h
 obtain⟨its',r',⟨o',n',e',_,_,d'⟩,_⟩:=I.list h'
 rw[e] at e';cases e'
 rw[d] at d'
 injection d' with d1 _
 have:its=its':=by simpa using congrArg IL d1
 subst this
 exact r.inj r'
theorem Inv.tuple_inj (I:Inv X pins σ H s) (h:SqT X.K H a xs) (h':SqT X.K H a ys):xs=ys:=by
 obtain⟨its,r,⟨o,e,_,n,d⟩,_⟩:=I.tuple h
 obtain⟨its',r',⟨o',e',_,n',d'⟩,_⟩:=I.tuple h'
 rw[e] at e';cases e'
 rw[d] at d'
 injection d' with d1 _
 have:its=its':=by simpa using congrArg IL d1
 subst this
 exact r.inj r'
end
noncomputable abbrev Cx.wish (X:Cx) (E:Value->Shared->Prop):Cx:={ X with xe:=E }
noncomputable abbrev Cx.nox (X:Cx):Cx:=X.wish fun _ _=>False
theorem Cx.Ok.wish {X:Cx}(ok:X.Ok) (E:Value->Shared->Prop):(X.wish E).Ok :=
 ⟨ok.mod,ok.kind,ok.glob,ok.blt,ok.above,ok.inj,ok.has,ok.cab,ok.hd,ok.frames,ok.stk,ok.exf,ok.bs,ok.bsz,ok.noex,ok.exfs,ok.funs,ok.frf⟩
theorem Cx.Ok.unwish {X:Cx}{E:Value->Shared->Prop}(ok:(X.wish E).Ok):X.Ok :=
 ⟨ok.mod,ok.kind,ok.glob,ok.blt,ok.above,ok.inj,ok.has,ok.cab,ok.hd,ok.frames,ok.stk,ok.exf,ok.bs,ok.bsz,ok.noex,ok.exfs,ok.funs,ok.frf⟩
section
variable {X:Cx}{pins:List (Addr×Obj)}{σ:St}{H:Hp}{s:Shared}{E:Value->Shared->Prop}
theorem Inv.wish (I:Inv X pins σ H s) (E:Value->Shared->Prop):Inv (X.wish E) pins σ H s:=⟨I.ok.wish E,I.os,I.bare,I.base,I.loc,I.cell,I.free,I.freeC,I.pin,I.hok,I.len⟩
theorem Inv.unwish (I:Inv (X.wish E) pins σ H s):Inv X pins σ H s:=⟨I.ok.unwish,I.os,I.bare,I.base,I.loc,I.cell,I.free,I.freeC,I.pin,I.hok,I.len⟩
theorem SP.unwish {D:Ends}{f:Flow}{s':Shared}(h:SP (X.wish E) pins D f s'):SP X pins D f s':=by
 cases f with
 | next=>obtain⟨σ',H',I,q⟩:=h;exact⟨σ',H',I.unwish,q⟩
 | brk=>obtain⟨σ',H',I,q⟩:=h;exact⟨σ',H',I.unwish,q⟩
 | cont=>obtain⟨σ',H',I,q⟩:=h;exact⟨σ',H',I.unwish,q⟩
 | ret u=>obtain⟨v,σ',H',I,r,q⟩:=h;exact⟨v,σ',H',I.unwish,r,q⟩
theorem PSs.nox {st:List Stmt}{t:TS}(h:PSs X.nox st t):PSs X st t:=fun pins s σ H D I hw =>
 BR (h pins s σ H D (I.wish _) hw) (fun _ _ q=>q.unwish) fun _ _ z=>Cm z
end
section
variable {X:Cx}{st:Stmt}{rest:List Stmt}{t u:TS}{e:Expr}{te:TE}{pos:Pos}
noncomputable def a71:TS:=fun D σ H=>D.nx σ H
noncomputable def tSeq (t u:TS):TS:=fun D σ H=>t { D with nx:=u D } σ H
theorem zu:PSs X [] a71:=fun _ _ σ H _ I h=>Er ⟨σ,H,I,h⟩
theorem kj (h1:PS X st t) (h2:PSs X rest u):PSs X (st::rest) (tSeq t u):=by
 intro pins s σ H D I h
 refine Ib (thn (h1 pins s σ H { D with nx:=u D } I h) fun f s1 q=>?_)
 cases f with
 | next =>
   obtain⟨σ',H',I',q⟩:=q
   exact h2 pins s1 σ' H' D I' q
 | ret v=>exact q
 | brk=>exact q
 | cont=>exact q
theorem ji (h1:PS X st t):PSs X [st] t:=by
 intro pins s σ H D I h
 refine Ib (thn (h1 pins s σ H D I h) fun f s1 q=>?_)
 cases f with
 | next=>exact Er q
 | ret v=>exact q
 | brk=>exact q
 | cont=>exact q
theorem Inv.quiet {pins:List (Addr×Obj)}{σ:St}{H:Hp}{s:Shared}(I:Inv X pins σ H s):interactive X.env=false:=by simp[interactive,I.ok.kind]
noncomputable def j4 (te:TE):TS:=fun D σ H=>te σ H fun _ H1=>D.nx σ H1
theorem zh (he:PE X e te) (hs:swapsWith e none pos.line X.env=pure false:=by rfl):PS X (.Expr e pos) (j4 te):=by
 intro pins s σ H D I h
 exact wpAny_Expr_any (thn (he pins s σ H _ I h) fun v s1 ⟨x,H1,I1,r1,q1⟩=>⟨σ,H1,I1,q1⟩) I.quiet hs
noncomputable def tRet (te:TE):TS:=fun D σ H=>te σ H D.rt
theorem rn (he:PE X e te):PS X (.Return (some e) pos) (tRet te):=by
 intro pins s σ H D I h
 exact wpAny_Return_some (thn (he pins s σ H _ I h) fun v s1 ⟨x,H1,I1,r1,q1⟩=>⟨x,σ,H1,I1,r1,q1⟩)
noncomputable def a6q:TS:=fun D _ H=>D.rt .non H
theorem a7p:PS X (.Return none pos) a6q:=fun _ _ σ H _ I h=>wpAny_Return_none ⟨.non,σ,H,I,rfl,h⟩
noncomputable def tIfS (c:TT) (t u:TS):TS:=fun D σ H=>c σ H fun b H1=>if b=true then t D σ H1 else u D σ H1
theorem a6x {c:Expr}{a b:List Stmt}{tc:TT}(hc:PT X c tc) (ha:PSs X a t) (hb:PSs X b u):PS X (.If c a b pos) (tIfS tc t u):=by
 intro pins s σ H D I h
 refine wpAny_If (thn (hc pins s σ H _ I h) fun d s1 ⟨H1,I1,q1⟩=>?_)
 cases d with
 | true=>exact ha pins s1 σ H1 D I1 q1
 | false=>exact hb pins s1 σ H1 D I1 q1
end
abbrev TG:=V->St->Hp->(St->Hp->Prop)->Prop
abbrev TGs:=List V->St->Hp->(St->Hp->Prop)->Prop
noncomputable def PG (X:Cx) (target:Expr) (t:TG):Prop :=
 ∀(pins:List (Addr×Obj)) (s:Shared) (σ:St) (H:Hp) (v:V) (u:Value) (Q:St->Hp->Prop),Inv X pins σ H s->RelV v u->t v σ H Q->
   wpAny (model X.prog X.w) X.A (assign target X.env u) (fun _ s'=>∃σ' H',Inv X pins σ' H' s'/\Q σ' H') X.xe s
noncomputable def PGs (X:Cx) (ts:List Expr) (t:TGs):Prop :=
 ∀(pins:List (Addr×Obj)) (s:Shared) (σ:St) (H:Hp) (vs:List V) (us:List Value) (Q:St->Hp->Prop),Inv X pins σ H s->Vals vs us->t vs σ H Q->
   wpAny (model X.prog X.w) X.A (assignInOrder ((assignEach ts X.env).map (·.2)) us) (fun _ s'=>∃σ' H',Inv X pins σ' H' s'/\Q σ' H') X.xe s
abbrev TSet:=V->V->V->Hp->(Hp->Prop)->Prop
noncomputable def PSet (X:Cx) (t:TSet):Prop :=
 ∀(pins:List (Addr×Obj)) (s:Shared) (σ:St) (H:Hp) (o i v:V) (ov iv u:Value) (Q:Hp->Prop),Inv X pins σ H s->RelV o ov->RelV i iv->RelV v u->t o i v H Q->
   wpAny (model X.prog X.w) X.A (setItem ov iv u) (fun _ s'=>∃H',Inv X pins σ H' s'/\Q H') X.xe s
abbrev TIp:=V->V->Hp->VK->Prop
noncomputable def PIp (X:Cx) (op:Operator) (t:TIp):Prop :=
 ∀(pins:List (Addr×Obj)) (s:Shared) (σ:St) (H:Hp) (x y:V) (v u:Value) (Q:VK),Inv X pins σ H s->RelV x v->RelV y u->t x y H Q->
   wpAny (model X.prog X.w) X.A (inplaceOp op v u) (EP X pins σ Q) X.xe s
section
variable {X:Cx}{pos:Pos}
noncomputable def ba (i:Nat):TG:=fun v σ H Q=>Q (σ.set i (some v)) H
theorem mo {i:Nat}{x:Str}(hN:X.N.Nodup) (hi:X.N[i]? = some x) (hx:Loc X.env.scope x) (hf:X.fn x=true\/X.env.scope.names.lookup x=some .local:=by first|exact .inl rfl|exact .inr rfl|assumption):PG X (.Name x pos) (ba i):=by
 intro pins s σ H v u Q I r h
 exact HK (qg I hN hi hx r (fun s' I'=>⟨_,H,I',h⟩) hf)
noncomputable def gNil:TGs:=fun vs σ H Q=>vs=[]/\Q σ H
noncomputable def kr (t:TG) (u:TGs):TGs:=fun vs σ H Q=>∃v r,vs=v::r/\t v σ H fun σ' H'=>u r σ' H' Q
theorem zq:PGs X [] gNil:=by
 intro pins s σ H vs us Q I r h
 obtain⟨e,h⟩:=h
 subst e
 cases r
 exact assignInOrder_nil ⟨σ,H,I,h⟩
theorem gz {e:Expr}{es:List Expr}{t:TG}{u:TGs}(h1:PG X e t) (h2:PGs X es u)
   (hs:(assignEach (e::es) X.env).map (·.2)=assign e X.env::(assignEach es X.env).map (·.2):=by rfl):PGs X (e::es) (kr t u):=by
 intro pins s σ H vs us Q I r h
 obtain⟨v,vr,e1,h⟩:=h
 subst e1
 cases r with
 | cons r rr =>
   rw[hs]
   refine assignInOrder_cons (thn (h1 pins s σ H _ _ _ I r h) fun _ s1 ⟨σ1,H1,I1,q1⟩=>?_)
   exact h2 pins s1 σ1 H1 _ _ Q I1 rr q1
noncomputable def gTup (K:Ab) (n:Nat) (t:TGs):TG:=fun v σ H Q=>∃a xs,v=.ref a/\SqT K H a xs/\xs.length=n/\t xs σ H Q
theorem a9z {es:List Expr}{k:Nat}{t:TGs}{n:Nat}(hc:X.calm=true) (h:PGs X es t)
   (hn:(assignEach es X.env).length=n:=by rfl) (hst:(assignEach es X.env).findIdx? (·.1)=none:=by rfl):PG X (.Tuple es k pos) (gTup X.K n t):=by
 intro pins s σ H v u Q I r hw
 obtain⟨a,xs,e1,hq,hl,hw⟩:=hw
 subst e1
 cases r
 obtain⟨its,rv,ht,hz⟩:=I.tuple hq
 refine assign_Tuple_tuple (I.ok.hd hc) ht (by simp[hn,<- hl,rv.length]) hst fun h' hx=>?_
 have I1:Inv X pins σ H { s with heap:=h' }:=I.kept (t':=s.toks) fun b o e=>hx b o (Az (Ap e)) e
 exact h pins _ σ H xs _ Q I1 (by simpa using rv) hw
noncomputable def gSub (to ti:TE) (t:TSet):TG:=fun v σ H Q=>to σ H fun o H1=>ti σ H1 fun i H2=>t o i v H2 fun H3=>Q σ H3
theorem a9j {o i:Expr}{to ti:TE}{t:TSet}(ho:PE X o to) (hi:PE X i ti) (hs:PSet X t)
   (ha:∀v,assign (.Subscript o i pos) X.env v=(do
     let ov<-holding [v] (eval o X.env)
     let iv<-holding [v,ov] (eval i X.env)
     standAt pos
     holding [v,ov,iv] (setItem ov iv v)
     release [v,ov,iv] []):=by intro _;rfl):PG X (.Subscript o i pos) (gSub to ti t):=by
 intro pins s σ H v u Q I r h
 rw[ha]
 refine Aa (AZ (thn (ho pins s σ H _ I h) fun ov s1 ⟨x,H1,I1,r1,q1⟩=>?_))
 refine Aa (AZ (thn (hi pins s1 σ H1 _ I1 q1) fun iv s2 ⟨y,H2,I2,r2,q2⟩=>?_))
 refine Aa (EZ (Aa (AZ (thn (hs pins s2 σ H2 x y v ov iv u _ I2 r1 r2 r q2) fun _ s3 ⟨H3,I3,q3⟩=>?_))))
 exact wpAny_release ⟨σ,H3,I3,q3⟩
noncomputable def tAsg (te:TE) (g:TG):TS:=fun D σ H=>te σ H fun x H1=>g x σ H1 D.nx
theorem a9d {tg e:Expr}{te:TE}{g:TG}(he:PE X e te) (hg:PG X tg g) (hs:swapsWithSole [tg] e pos.line X.env=pure false:=by rfl) (hw:swappedStores [tg] e X.env=pure none:=by rfl)
   (h1:(assignEach [tg] X.env).map (·.2)=[assign tg X.env]:=by rfl):PS X (.Assign [tg] e pos) (tAsg te g):=by
 intro pins s σ H D I h
 refine wpAny_Assign_stores (thn (he pins s σ H _ I h) fun v s1 ⟨x,H1,I1,r1,q1⟩=>?_) hs hw
 rw[h1]
 exact thn (hg pins s1 σ H1 x v _ I1 r1 q1) fun _ s2 q=>q
theorem a4r {i:Nat}{x:Str}{e:Expr}{te:TE}{pos':Pos}(hN:X.N.Nodup) (hi:X.N[i]? = some x) (hx:Loc X.env.scope x) (he:PE X e te) (hs:swapsWith e (some (.Name x pos')) pos.line X.env=pure false:=by rfl) (hf:X.fn x=true\/X.env.scope.names.lookup x=some .local:=by first|exact .inl rfl|exact .inr rfl|assumption) :
   PS X (.Assign [.Name x pos'] e pos) (tAsg te (ba i)):=by
 intro pins s σ H D I h
 refine wpAny_Assign_Name (thn (he pins s σ H _ I h) fun v s1 ⟨y,H1,I1,r1,q1⟩=>?_) hs
 exact qg I1 hN hi hx r1 (fun s2 I2=>⟨_,H1,I2,q1⟩) hf
noncomputable def a72 (to ti te:TE) (tget:V->V->Hp->VK->Prop) (tip:TIp) (tset:TSet):TS:=fun D σ H=>to σ H fun o H1=>ti σ H1 fun i H2=>tget o i H2 fun x H3=>te σ H3 fun y H4=>tip x y H4 fun z H5=>tset o i z H5 fun H6=>D.nx σ H6
noncomputable def PGet (X:Cx) (t:V->V->Hp->VK->Prop):Prop :=
 ∀(pins:List (Addr×Obj)) (s:Shared) (σ:St) (H:Hp) (o i:V) (ov iv:Value) (Q:VK),Inv X pins σ H s->RelV o ov->RelV i iv->t o i H Q->
   wpAny (model X.prog X.w) X.A (getItem ov iv) (EP X pins σ Q) X.xe s
theorem a86 {o i e:Expr}{to ti te:TE}{tget:V->V->Hp->VK->Prop}{tip:TIp}{tset:TSet}{op:Operator}{tpos:Pos}(ho:PE X o to) (hi:PE X i ti) (hg:PGet X tget) (he:PE X e te) (hp:PIp X op tip) (hs:PSet X tset)
   (ha:∀ov iv new,augStore i ov iv new=(do holding [new,ov,iv] (setItem ov iv new);release [new,ov,iv] [];pure .next):=by intros;rfl):PS X (.AugAssign (.Subscript o i tpos) op e pos) (a72 to ti te tget tip tset):=by
 intro pins s σ H D I h
 refine wpAny_AugAssign_SubscriptAny (thn (ho pins s σ H _ I h) fun ov s1 ⟨x1,H1,I1,r1,q1⟩=>?_) ha
 refine thn (hi pins s1 σ H1 _ I1 q1) fun iv s2 ⟨x2,H2,I2,r2,q2⟩=>?_
 refine thn (hg pins s2 σ H2 x1 x2 ov iv _ I2 r1 r2 q2) fun old s3 ⟨x3,H3,I3,r3,q3⟩=>?_
 refine thn (he pins s3 σ H3 _ I3 q3) fun v s4 ⟨x4,H4,I4,r4,q4⟩=>?_
 refine thn (hp pins s4 σ H4 x3 x4 old v _ I4 r3 r4 q4) fun new s5 ⟨x5,H5,I5,r5,q5⟩=>?_
 exact thn (hs pins s5 σ H5 x1 x2 x5 ov iv new _ I5 r1 r2 r5 q5) fun _ s6 ⟨H6,I6,q6⟩=>⟨σ,H6,I6,q6⟩
noncomputable def ipI (f:Int->Int->Int):TIp:=fun x y H Q=>∃i j,x=.int i/\y=.int j/\Q (.int (f i j)) H
theorem vz:PIp X .Add (ipI fun i j=>i+j):=by
 intro pins s σ H x y v u Q I r1 r2 h
 obtain⟨i,j,e1,e2,q⟩:=h
 subst e1;subst e2
 obtain⟨t,rfl⟩:=r1
 obtain⟨t',rfl⟩:=r2
 exact iadd_int ⟨.int _,H,I.tok _,⟨_,rfl⟩,q⟩
end
section
variable {X:Cx}{pos:Pos}
noncomputable def qq (c:TT) (tb:TS):TS:=fun D σ H=>∃W:Nat->St->Hp->Prop,(∃m,W m σ H)/\∀m σ H,W m σ H->
 c σ H fun b H1=>if b=true then ∃N:St->Hp->Prop,(∀σ' H',N σ' H'->∃m',m'<m/\W m' σ' H')/\tb { D with nx:=N,ct:=N,bk:=D.nx } σ H1 else D.nx σ H1
theorem a63 {c:Expr}{body:List Stmt}{tc:TT}{tb:TS}(hp:PassesOwn (model X.prog X.w) X.A X.env X.xe) (hc:PT X c tc) (hb:PSs X body tb):PS X (.While c body [] pos) (qq tc tb):=by
 intro pins s σ H D I h
 obtain⟨W,⟨m0,w0⟩,turn⟩:=h
 refine wpAny_While (codeAny_whileLoop (fun n s'=>∃σ' H',Inv X pins σ' H' s'/\W n σ' H') ?_ m0 ⟨σ,H,I,w0⟩)
 rintro n s1 ⟨σ1,H1,I1,w1⟩
 refine CL hp (thn (hc pins s1 σ1 H1 _ I1 (turn n σ1 H1 w1)) fun b s2 ⟨H2,I2,q2⟩=>?_)
 cases b with
 | true =>
   obtain⟨N,hN,q2⟩:=q2
   rw[if_pos rfl]
   refine CL hp (thn (hb pins s2 σ1 H2 _ I2 q2) fun f s3 q3=>?_)
   cases f with
   | next =>
     obtain⟨σ3,H3,I3,n3⟩:=q3
     obtain⟨m',hm,w3⟩:=hN σ3 H3 n3
     exact⟨m',hm,σ3,H3,I3,w3⟩
   | cont =>
     obtain⟨σ3,H3,I3,n3⟩:=q3
     obtain⟨m',hm,w3⟩:=hN σ3 H3 n3
     exact⟨m',hm,σ3,H3,I3,w3⟩
   | brk=>exact q3
   | ret v=>exact q3
 | false =>
   rw[if_neg Af]
   exact Er ⟨σ1,H2,I2,q2⟩
end
structure It where
 go:Nat->Hp->Prop
 yld:Nat->Hp->V->Hp->Prop
 stop:Nat->Hp->Prop
noncomputable def FpOk (X:Cx) (pins:List (Addr×Obj)) (H:Hp) (b:Addr):Prop :=
 H b=none/\b≠X.env.locals/\b∉X.fs/\(b∈X.ex\/X.s₀.heap.objs.size<=b)/\(∀x c,X.env.cells.lookup x=some c->c≠b)/\∀p∈X.pn++pins,p.1≠b
theorem Inv.fpOk {X:Cx}{pins:List (Addr×Obj)}{σ:St}{H H':Hp}{s:Shared}{b:Addr}(I:Inv X pins σ H s) (hb:s.heap.objs.size<=b) (hn:H' b=none):FpOk X pins H' b:=by
 refine⟨hn,Ck (AC I.lt hb),I.nofs hb,.inr (Ax I.sz hb),fun x c e z=>?_,fun p hp z=>?_⟩
 . obtain⟨v,q⟩:=I.cell x c e
   exact absurd (AC q.lt (by rw[z];exact hb)) (Bi _)
 . exact absurd (AC (Ap (I.pin p hp).1) (by rw[z];exact hb)) (Bi _)
structure Turn (P:Program) (w:World) (K:Ab) (tg:Expr) (J:It) (fp:List Addr) (it:Addr) (tn:Nat->Heap->Prop):Prop where
 mem:it∈fp
 obj:∀i h,tn i h->∀b∈fp,∃o,h.get? b=some o/\∀v,o.data≠.cell v
 keep:∀i h h',tn i h->(∀b∈fp,∀o,h.get? b=some o->h'.get? b=some o)->tn i h'
 item:∀(X:Cx),X.prog=P->X.w=w->X.K=K->X.calm=true->∀(i:Nat) (pins:List (Addr×Obj)) (s:Shared) (σ:St) (H:Hp) (E:Value->Shared->Prop),Inv X pins σ H s->(∀b∈fp,FpOk X pins H b)->tn i s.heap->J.go i H->
   wpAny (model P w) X.A (pyNext (.ref it)) (fun r s1=>∃u,r=some u/\
     wpAny (model P w) X.A (letOwnedTupleGo tg (.ref it) u) (fun _ s2=>∃x H',Inv X pins σ H' s2/\RelV x u/\J.yld i H x H'/\tn (i+1) s2.heap/\∀b∈fp,H' b=none) E s1) E s
 done:∀(X:Cx),X.prog=P->X.w=w->X.K=K->X.calm=true->∀(i:Nat) (pins:List (Addr×Obj)) (s:Shared) (σ:St) (H:Hp) (E:Value->Shared->Prop),Inv X pins σ H s->(∀b∈fp,FpOk X pins H b)->tn i s.heap->J.stop i H->
   wpAny (model P w) X.A (pyNext (.ref it)) (fun r s1=>r=none/\Inv X pins σ H s1) E s
 self:∀(A:Around) (i:Nat) (s:Shared) (Q:Value->Shared->Prop) (E:Value->Shared->Prop),tn i s.heap->Q (.ref it) s->wpAny (model P w) A (pyIter (.ref it)) Q E s
abbrev TI:=St->Hp->(It->Hp->Prop)->Prop
noncomputable def PIE (X:Cx) (pins:List (Addr×Obj)) (σ:St) (tg:Expr) (R:It->Hp->Prop) (itv:Value) (s2:Shared):Prop :=
 ∃(it:Addr) (fp:List Addr) (tn:Nat->Heap->Prop) (J:It) (H':Hp),itv=.ref it/\Inv X pins σ H' s2/\Turn X.prog X.w X.K tg J fp it tn/\tn 0 s2.heap/\(∀b∈fp,FpOk X pins H' b)/\R J H'
noncomputable def PI (X:Cx) (tg iter:Expr) (wi:TI):Prop :=
 ∀(pins:List (Addr×Obj)) (s:Shared) (σ:St) (H:Hp) (R:It->Hp->Prop),Inv X pins σ H s->wi σ H R->
   wpAny (model X.prog X.w) X.A (eval iter X.env) (fun v s1=>wpAny (model X.prog X.w) X.A (pyIter v) (PIE X pins σ tg R) X.xe s1) X.xe s
theorem qp {M:Model}{A:Around}{E:Value->Shared->Prop}{s:Shared}{tg:Expr}{it:Addr}{u:Value}{o:Obj}{n:String}{vs:Array Value}{Q:Unit->Shared->Prop}(ho:s.heap.get? it=some o) (hc:o.cls=.type n) (hd:o.data=.fields vs)
   (hn:["enumerate","zip","dict_itemiterator","dict_reverseitemiterator","odict_iterator","itertools.zip_longest","itertools.pairwise"].contains n=false) (hQ:Q () s):wpAny M A (letOwnedTupleGo tg (.ref it) u) Q E s:=by
 unfold letOwnedTupleGo
 cases tg<;>first
   | exact Ae hQ
   | (cases u<;>first
       | exact Ae hQ
       | (refine Aa (Ip ho ?_)
          rw[hc,hd]
          show wpAny M A (if (["enumerate","zip","dict_itemiterator","dict_reverseitemiterator","odict_iterator","itertools.zip_longest","itertools.pairwise"].contains n && vs[0]? == some (rawInt _))=true then _ else _) Q E s
          rw[if_neg (by intro h;rw[hn,Gq] at h;cases h)]
          exact Ae hQ))
noncomputable def Itl (K:Ab) (a:Addr):It :=
 ⟨fun i H=>∃xs x,SqL K H a xs/\xs[i]? = some x,fun i H x H'=>H'=H/\∀xs,SqL K H a xs->xs[i]? = some x,fun i H=>∃xs,SqL K H a xs/\xs.length<=i⟩
noncomputable def Itt (K:Ab) (a:Addr):It :=
 ⟨fun i H=>∃xs x,SqT K H a xs/\xs[i]? = some x,fun i H x H'=>H'=H/\∀xs,SqT K H a xs->xs[i]? = some x,fun i H=>∃xs,SqT K H a xs/\xs.length<=i⟩
noncomputable def Itr (lo:Int) (n:Nat):It:=⟨fun i _=>i<n,fun i H x H'=>H'=H/\x=.int (lo+i),fun i _=>n<=i⟩
theorem a1s {P:Program}{w:World}{K:Ab}{tg:Expr}(a it:Addr):Turn P w K tg (Itl K a) [it] it (fun i h=>h.IsListIter it a i) where
 mem:=by simp
 obj:=fun i h st b hb=>by
   have e:b=it:=by simpa using hb
   subst e
   obtain⟨o,e,c,d⟩:=st
   exact⟨o,e,fun v z=>by rw[d] at z;cases z⟩
 keep:=fun i h h' st k=>st.at fun o e=>k it (by simp) o e
 item:=by
   intro X hP hw hK hc i pins s σ H E I hf st hg
   subst hP hw hK
   obtain⟨xs,x,hq,hx⟩:=hg
   obtain⟨its,rv,p,hz⟩:=I.list hq
   obtain⟨u,hu,ru⟩:=rv.get hx
   obtain⟨f0,f1,f2,f3,f4,f5⟩:=hf it (by simp)
   refine Eb st p.isList (x:=u) (by simpa using hu) fun h' st' sb=>?_
   have I1:Inv X pins σ H { s with heap:=h' }:=I.turned (t':=s.toks) (fun b o hb e=>(sb.2 b hb).trans e) f0 f1 f3 f4 f5
   obtain⟨o,e,c,d⟩:=id st'
   exact⟨u,rfl,qp (s:={ s with heap:=h' }) e c d (by decide) ⟨x,H,I1,ru,⟨rfl,fun ys hy=>by rw[I.list_inj hy hq];exact hx⟩,st',fun b hb=>(hf b hb).1⟩⟩
 done:=by
   intro X hP hw hK hc i pins s σ H E I hf st hg
   subst hP hw hK
   obtain⟨xs,hq,hx⟩:=hg
   obtain⟨its,rv,p,hz⟩:=I.list hq
   obtain⟨f0,f1,f2,f3,f4,f5⟩:=hf it (by simp)
   have hl:=rv.length
   exact Ek (I.ok.hd hc) st p.isList (by simp;omega) fun h' eb=>⟨rfl,I.turned (t':=s.toks) (fun b o hb e=>eb b o hb e) f0 f1 f3 f4 f5⟩
 self:=fun _ _ _ _ _ st h=>wpAny_pyIter_listiter st h
theorem a1a {P:Program}{w:World}{K:Ab}{tg:Expr}(a it:Addr):Turn P w K tg (Itt K a) [it] it (fun i h=>h.IsTupleIter it a i) where
 mem:=by simp
 obj:=fun i h st b hb=>by
   have e:b=it:=by simpa using hb
   subst e
   obtain⟨o,e,c,d⟩:=st
   exact⟨o,e,fun v z=>by rw[d] at z;cases z⟩
 keep:=fun i h h' st k=>st.at fun o e=>k it (by simp) o e
 item:=by
   intro X hP hw hK hc i pins s σ H E I hf st hg
   subst hP hw hK
   obtain⟨xs,x,hq,hx⟩:=hg
   obtain⟨its,rv,p,hz⟩:=I.tuple hq
   obtain⟨u,hu,ru⟩:=rv.get hx
   obtain⟨f0,f1,f2,f3,f4,f5⟩:=hf it (by simp)
   refine wpAny_pyNext_tuple_item st (show s.heap.IsTuple a its.toArray from p) (x:=u) (by simpa using hu) fun h' st' sb=>?_
   have I1:Inv X pins σ H { s with heap:=h' }:=I.turned (t':=s.toks) (fun b o hb e=>(sb.2 b hb).trans e) f0 f1 f3 f4 f5
   obtain⟨o,e,c,d⟩:=id st'
   exact⟨u,rfl,qp (s:={ s with heap:=h' }) e c d (by decide) ⟨x,H,I1,ru,⟨rfl,fun ys hy=>by rw[I.tuple_inj hy hq];exact hx⟩,st',fun b hb=>(hf b hb).1⟩⟩
 done:=by
   intro X hP hw hK hc i pins s σ H E I hf st hg
   subst hP hw hK
   obtain⟨xs,hq,hx⟩:=hg
   obtain⟨its,rv,p,hz⟩:=I.tuple hq
   obtain⟨f0,f1,f2,f3,f4,f5⟩:=hf it (by simp)
   have hl:=rv.length
   exact wpAny_pyNext_tuple_end (I.ok.hd hc) st (show s.heap.IsTuple a its.toArray from p) (by simp;omega) fun h' eb=>⟨rfl,I.turned (t':=s.toks) (fun b o hb e=>eb b o hb e) f0 f1 f3 f4 f5⟩
 self:=fun _ _ _ _ _ st h=>wpAny_pyIter_tupleiter st h
theorem a0b {P:Program}{w:World}{K:Ab}{tg:Expr}(it:Addr) (lo:Int) (n:Nat):Turn P w K tg (Itr lo n) [it] it (fun i h=>IsRangeIter h it (lo+(i:Nat)*1) ((n:Int) - (i:Nat)) 1) where
 mem:=by simp
 obj:=fun i h st b hb=>by
   have e:b=it:=by simpa using hb
   subst e
   exact⟨_,st,fun v z=>by
     have z':Data.fields _=Data.cell v:=z
     cases z'⟩
 keep:=fun i h h' st k=>k it (by simp) _ st
 item:=by
   intro X hP hw hK hc i pins s σ H E I hf st hg
   subst hP hw hK
   obtain⟨f0,f1,f2,f3,f4,f5⟩:=hf it (by simp)
   have W:=IU (prog:=X.prog) (w:=X.w) (I.ok.hd hc) it lo 1 n
   refine W.item i s _ _ hg st fun v h' tk hv st' kk=>?_
   obtain⟨t,rfl⟩:=hv
   have I1:Inv X pins σ H { s with heap:=h',toks:=tk }:=I.turned (fun b o hb e=>kk b o (by simpa using hb) e) f0 f1 f3 f4 f5
   refine⟨_,rfl,qp (s:={ s with heap:=h',toks:=tk }) (n := "range_iterator") st' rfl rfl (by decide) ⟨.int (lo+i),H,I1,⟨t,?_⟩,⟨rfl,rfl⟩,st',fun b hb=>(hf b hb).1⟩⟩
   rw[Int.mul_one]
 done:=by
   intro X hP hw hK hc i pins s σ H E I hf st hg
   subst hP hw hK
   obtain⟨f0,f1,f2,f3,f4,f5⟩:=hf it (by simp)
   exact FY (I.ok.hd hc) st (by have:n<=i:=hg;omega) fun h' eb=>⟨rfl,I.turned (t':=s.toks) (fun b o hb e=>eb b o hb e) f0 f1 f3 f4 f5⟩
 self:=fun _ _ _ _ _ st h=>FZ st h
section
variable {X:Cx}{tg:Expr}
noncomputable def a1h (K:Ab) (tl:TE):TI:=fun σ H R=>tl σ H fun x H1=>∃a,x=.ref a/\(∃xs,SqL K H1 a xs)/\R (Itl K a) H1
noncomputable def iTup (K:Ab) (tl:TE):TI:=fun σ H R=>tl σ H fun x H1=>∃a,x=.ref a/\(∃xs,SqT K H1 a xs)/\R (Itt K a) H1
theorem zg {l:Expr}{tl:TE}(hl:PE X l tl):PI X tg l (a1h X.K tl):=by
 intro pins s σ H R I h
 refine thn (hl pins s σ H _ I h) fun v s1 ⟨x,H1,I1,r1,q1⟩=>?_
 obtain⟨a,e,⟨xs,hq⟩,q⟩:=q1
 subst e
 cases r1
 obtain⟨its,rv,p,hz⟩:=I1.list hq
 refine CQ p.isList ?_
 refine⟨s1.heap.objs.size,[s1.heap.objs.size],_,_,H1,rfl,I1.kept (t':=s1.toks) fun b o e=>Ad _ e,a1s a _,⟨_,An _ rfl,rfl,rfl⟩,fun b hb=>?_,q⟩
 have e:b=s1.heap.objs.size:=by simpa using hb
 subst e
 exact I1.fpOk (Ah _) (I1.hok.fresh (Ah _))
theorem a2x {l:Expr}{tl:TE}(hl:PE X l tl):PI X tg l (iTup X.K tl):=by
 intro pins s σ H R I h
 refine thn (hl pins s σ H _ I h) fun v s1 ⟨x,H1,I1,r1,q1⟩=>?_
 obtain⟨a,e,⟨xs,hq⟩,q⟩:=q1
 subst e
 cases r1
 obtain⟨its,rv,p,hz⟩:=I1.tuple hq
 refine ET (show s1.heap.IsTuple a its.toArray from p) ?_
 refine⟨s1.heap.objs.size,[s1.heap.objs.size],_,_,H1,rfl,I1.kept (t':=s1.toks) fun b o e=>Ad _ e,a1a a _,⟨_,An _ rfl,rfl,rfl⟩,fun b hb=>?_,q⟩
 have e:b=s1.heap.objs.size:=by simpa using hb
 subst e
 exact I1.fpOk (Ah _) (I1.hok.fresh (Ah _))
theorem x8 {pins:List (Addr×Obj)}{σ:St}{H:Hp}{s:Shared}{R:It->Hp->Prop}{E:Value->Shared->Prop}{lo hi:Int}{t u v:Tok}{tk:Nat}(I:Inv X pins σ H s) (h1 : -(2 ^ 62)<=lo) (h2:lo<2 ^ 62) (h3 : -(2 ^ 62)<=hi) (h4:hi<2 ^ 62)
   (q:R (Itr lo (hi - lo).toNat) H):wpAny (model X.prog X.w) X.A (pyIter (.ref s.heap.objs.size)) (PIE X pins σ tg R) E { s with heap:=s.heap.push { cls:=.type "range",data:=.fields #[.int lo t,.int hi u,.int 1 v] },toks:=tk }:=by
 refine Hv (IV ..) (small_one h1 h2 h3 h4) ?_
 have I1:Inv X pins σ H { s with heap:=s.heap.push { cls:=.type "range",data:=.fields #[.int lo t,.int hi u,.int 1 v] },toks:=tk }:=I.kept fun b o e=>Ad _ e
 refine⟨(s.heap.push { cls:=.type "range",data:=.fields #[.int lo t,.int hi u,.int 1 v] }).objs.size,[(s.heap.push { cls:=.type "range",data:=.fields #[.int lo t,.int hi u,.int 1 v] }).objs.size],_,_,H,rfl,
   I1.kept (t':=tk) fun b o e=>Ad _ e,a0b _ lo (hi - lo).toNat,?_,fun b hb=>?_,q⟩
 . have e1:lo+((0:Nat):Int)*1=lo:=by simp
   have e2:(((hi - lo).toNat:Nat):Int) - ((0:Nat):Int)=Cf lo hi 1:=by rw[rangeSize_one];split<;>omega
   show IsRangeIter _ _ (lo+((0:Nat):Int)*1) ((((hi - lo).toNat:Nat):Int) - ((0:Nat):Int)) 1
   rw[e1,e2]
   exact An _ rfl
 . have e:b=(s.heap.push { cls:=.type "range",data:=.fields #[.int lo t,.int hi u,.int 1 v] }).objs.size:=by simpa using hb
   subst e
   exact I1.fpOk (Ah _) (I1.hok.fresh (Ah _))
noncomputable def a76 (ta:TA):TI:=fun σ H R=>ta σ H fun vs H1=>∃j:Int,vs=[.int j] /\ -(2 ^ 62)<=j/\j<2 ^ 62/\R (Itr 0 j.toNat) H1
noncomputable def a6m (ta:TA):TI:=fun σ H R=>ta σ H fun vs H1=>∃i j:Int,vs=[.int i,.int j]/\(-(2 ^ 62)<=i/\i<2 ^ 62 /\ -(2 ^ 62)<=j/\j<2 ^ 62)/\R (Itr i (j - i).toNat) H1
theorem a4g {a:Expr}{ta:TA}{p pos:Pos}(hg:Gl X "range") (hm:X.mg "range" = none) (ha:PA X [a] ta) (hs:starEach [a] X.env=[(false,eval a X.env)]:=by rfl):PI X tg (.Call (.Name "range" p) [a] [] pos) (a76 ta):=by
 intro pins s σ H R I h
 refine Call_ (ii I hg hm boot_range (Cg (thn (ha pos pins s σ H _ I h) fun us s1 ⟨vs,H1,I1,r1,q1⟩=>?_) hs rfl))
 obtain⟨j,e,q1,q2,q⟩:=q1
 subst e
 cases r1 with
 | cons r rr =>
   cases rr
   obtain⟨t,rfl⟩:=r
   exact call_range_1 (x8 I1 (by omega) (by omega) q1 q2 (by simpa using q))
theorem a2k {a b:Expr}{ta:TA}{p pos:Pos}(hg:Gl X "range") (hm:X.mg "range" = none) (ha:PA X [a,b] ta) (hs:starEach [a,b] X.env=[(false,eval a X.env),(false,eval b X.env)]:=by rfl) (hs2:starEach [b] X.env=[(false,eval b X.env)]:=by rfl) :
   PI X tg (.Call (.Name "range" p) [a,b] [] pos) (a6m ta):=by
 intro pins s σ H R I h
 refine Call_ (ii I hg hm boot_range (Cg (thn (ha pos pins s σ H _ I h) fun us s1 ⟨vs,H1,I1,r1,q1⟩=>?_) (by rw[hs,hs2]) (by rw[hs2];rfl)))
 obtain⟨i,j,e,⟨q1,q2,q3,q4⟩,q⟩:=q1
 subst e
 cases r1 with
 | cons r rr =>
   cases rr with
   | cons r' rr =>
     cases rr
     obtain⟨t,rfl⟩:=r
     obtain⟨t',rfl⟩:=r'
     exact call_range_2 (x8 I1 q1 q2 q3 q4 q)
noncomputable def tFor (wi:TI) (g:TG) (tb:TS):TS:=fun D σ H=>wi σ H fun J H1=>∃W:Nat->Nat->St->Hp->Prop,(∃m,W 0 m σ H1)/\∀i m σ H,W i m σ H->
 (J.stop i H/\D.nx σ H)\/(J.go i H/\∃N:St->Hp->Prop,(∀σ' H',N σ' H'->∃m',m'<m/\W (i+1) m' σ' H')/\∀x H',J.yld i H x H'->g x σ H' fun σ2 H2=>tb { D with nx:=N,ct:=N,bk:=D.nx } σ2 H2)
noncomputable def iq (fp:List Addr) (h:Heap):List (Addr×Obj):=fp.filterMap fun b=>(h.get? b).map fun o=>(b,o)
theorem fz {fp:List Addr}{h:Heap}{b:Addr}{o:Obj}(hb:b∈fp) (e:h.get? b=some o):(b,o)∈iq fp h:=List.mem_filterMap.mpr ⟨b,hb,by rw[e];rfl⟩
theorem a4d {fp:List Addr}{h:Heap}{p:Addr×Obj}(hp:p∈iq fp h):p.1∈fp/\h.get? p.1=some p.2:=by
 obtain⟨b,hb,e⟩:=List.mem_filterMap.mp hp
 cases q:h.get? b with
 | none=>rw[q] at e;cases e
 | some o =>
   rw[q] at e
   have e':(b,o)=p:=Av e
   subst e'
   exact⟨hb,q⟩
theorem Inv.pinned {pins:List (Addr×Obj)}{σ:St}{H:Hp}{s:Shared}{fp:List Addr}(I:Inv X pins σ H s) (hf:∀b∈fp,FpOk X pins H b) (ho:∀b∈fp,∃o,s.heap.get? b=some o/\∀v,o.data≠.cell v):Inv X (pins++iq fp s.heap) σ H s :=
 I.pins_of fun p hp=>(As.mp hp).elim (fun z=>I.pin p (AE _ z)) fun z=>by
   obtain⟨hb,e⟩:=a4d z
   obtain⟨f0,f1,f2,_⟩:=hf p.1 hb
   obtain⟨o,e',d⟩:=ho p.1 hb
   rw[e] at e';cases e'
   exact⟨e,f0,f1,f2,d⟩
theorem Inv.unpinned {pins pl:List (Addr×Obj)}{σ:St}{H:Hp}{s:Shared}(I:Inv X (pins++pl) σ H s):Inv X pins σ H s:=I.pins_of fun p hp=>I.pin p (AE _ (AW _ hp))
theorem a1w {iter:Expr}{body:List Stmt}{wi:TI}{g:TG}{tb:TS}{pos:Pos}(hp:PassesOwn (model X.prog X.w) X.A X.env X.xe) (hc:X.calm=true) (hi:PI X tg iter wi) (hg:PG X tg g) (hb:PSs X body tb)
   (hs:∀x,foldedSetIterable iter X.env x=pure x:=by intro _;rfl):PS X (.For tg iter body [] pos) (tFor wi g tb):=by
 intro pins s σ H D I h
 refine wpAny_For (thn (hi pins s σ H _ I h) fun v s1 h1=>thn h1 fun itv s2 h2=>?_) hs
 obtain⟨it,fp,tn,J,H2,e,I2,T,st2,f2,W,⟨m0,w0⟩,turn⟩:=h2
 subst e
 have stat:∀{H':Hp},(∀b∈fp,H' b=none)->∀b∈fp,FpOk X pins H' b:=fun hn b hb=>⟨hn b hb,(f2 b hb).2⟩
 refine codeAny_forLoop_any (fun n s'=>∃i σ' H',Inv X pins σ' H' s'/\tn i s'.heap/\(∀b∈fp,H' b=none)/\W i n σ' H') ?_ m0 ⟨0,σ,H2,I2,st2,fun b hb=>(f2 b hb).1,w0⟩
 rintro n s3 ⟨i,σ3,H3,I3,st3,fr3,w3⟩
 rcases turn i n σ3 H3 w3 with⟨stop,qn⟩|⟨go,N,hN,step⟩
 . refine CL hp (thn (T.done X rfl rfl rfl hc i pins s3 σ3 H3 X.xe I3 (stat fr3) st3 stop) fun r s4 ⟨hr,I4⟩=>?_)
   subst hr
   exact Er ⟨σ3,H3,I4,qn⟩
 . refine CL hp (thn (T.item X rfl rfl rfl hc i pins s3 σ3 H3 X.xe I3 (stat fr3) st3 go) fun r s4 ⟨u,hr,h4⟩=>?_)
   subst hr
   refine CL hp (thn h4 fun _ s5 ⟨x,H5,I5,r5,y5,st5,fr5⟩=>?_)
   have I5':=I5.pinned (stat fr5) (T.obj _ _ st5)
   refine CL hp (thn (hg _ s5 σ3 H5 x u _ I5' r5 (step x H5 y5)) fun _ s6 ⟨σ6,H6,I6,q6⟩=>?_)
   refine CL hp (thn (hb _ s6 σ6 H6 _ I6 q6) fun f s7 q7=>?_)
   have again:∀{σ7:St} {H7:Hp},Inv X (pins++iq fp s5.heap) σ7 H7 s7->N σ7 H7->∃m,m<n/\∃i σ' H',Inv X pins σ' H' s7/\tn i s7.heap/\(∀b∈fp,H' b=none)/\W i m σ' H':=fun {σ7 H7} I7 n7=>by
     obtain⟨m',hm,w7⟩:=hN σ7 H7 n7
     refine⟨m',hm,i+1,σ7,H7,I7.unpinned,T.keep _ _ _ st5 fun b hb o e=>(I7.pin (b,o) (AE _ (AE _ (fz hb e)))).1,fun b hb=>?_,w7⟩
     obtain⟨o,e,d⟩:=T.obj _ _ st5 b hb
     exact (I7.pin (b,o) (AE _ (AE _ (fz hb e)))).2.1
   cases f with
   | next=>obtain⟨σ7,H7,I7,n7⟩:=q7;exact again I7 n7
   | cont=>obtain⟨σ7,H7,I7,n7⟩:=q7;exact again I7 n7
   | brk=>obtain⟨σ7,H7,I7,q7⟩:=q7;exact⟨σ7,H7,I7.unpinned,q7⟩
   | ret v=>obtain⟨x7,σ7,H7,I7,r7,q7⟩:=q7;exact⟨x7,σ7,H7,I7.unpinned,r7,q7⟩
end
theorem i8 {K:Ab}{a:Addr}{xs:List V}{g:TG}{tb:TS}{D:Ends}{σ:St}{H:Hp}(Pv:Nat->St->Hp->Prop) (h0:Pv 0 σ H) (hl:∀i σ H,i<=xs.length->Pv i σ H->SqL K H a xs)
   (hs:∀i x σ H,xs[i]? = some x->Pv i σ H->g x σ H fun σ2 H2=>tb { D with nx:=Pv (i+1),ct:=Pv (i+1),bk:=D.nx } σ2 H2) (hd:∀σ H,Pv xs.length σ H->D.nx σ H) :
   ∃W:Nat->Nat->St->Hp->Prop,(∃m,W 0 m σ H)/\∀i m σ H,W i m σ H->
     ((Itl K a).stop i H/\D.nx σ H)\/((Itl K a).go i H/\∃N:St->Hp->Prop,(∀σ' H',N σ' H'->∃m',m'<m/\W (i+1) m' σ' H')/\∀x H',(Itl K a).yld i H x H'->g x σ H' fun σ2 H2=>tb { D with nx:=N,ct:=N,bk:=D.nx } σ2 H2):=by
 refine⟨fun i m σ H=>m=xs.length - i/\i<=xs.length/\Pv i σ H,⟨xs.length,by simp,AG _,h0⟩,?_⟩
 rintro i m σ H ⟨rfl,hi,p⟩
 have q:=hl i σ H hi p
 by_cases hlt:i<xs.length
 . refine .inr ⟨⟨xs,xs[i],q,by simp[hlt]⟩,Pv (i+1),fun σ' H' p'=>⟨xs.length - (i+1),by omega,rfl,hlt,p'⟩,fun x H' y=>?_⟩
   obtain⟨e,y⟩:=y
   subst e
   exact hs i x σ _ (y xs q) p
 . have e:i=xs.length:=by omega
   subst e
   exact .inl ⟨⟨xs,q,Ah _⟩,hd σ H p⟩
theorem a08 {K:Ab}{a:Addr}{xs:List V}{g:TG}{tb:TS}{D:Ends}{σ:St}{H:Hp}(Pv:Nat->St->Hp->Prop) (h0:Pv 0 σ H) (hl:∀i σ H,i<=xs.length->Pv i σ H->SqT K H a xs)
   (hs:∀i x σ H,xs[i]? = some x->Pv i σ H->g x σ H fun σ2 H2=>tb { D with nx:=Pv (i+1),ct:=Pv (i+1),bk:=D.nx } σ2 H2) (hd:∀σ H,Pv xs.length σ H->D.nx σ H) :
   ∃W:Nat->Nat->St->Hp->Prop,(∃m,W 0 m σ H)/\∀i m σ H,W i m σ H->
     ((Itt K a).stop i H/\D.nx σ H)\/((Itt K a).go i H/\∃N:St->Hp->Prop,(∀σ' H',N σ' H'->∃m',m'<m/\W (i+1) m' σ' H')/\∀x H',(Itt K a).yld i H x H'->g x σ H' fun σ2 H2=>tb { D with nx:=N,ct:=N,bk:=D.nx } σ2 H2):=by
 refine⟨fun i m σ H=>m=xs.length - i/\i<=xs.length/\Pv i σ H,⟨xs.length,by simp,AG _,h0⟩,?_⟩
 rintro i m σ H ⟨rfl,hi,p⟩
 have q:=hl i σ H hi p
 by_cases hlt:i<xs.length
 . refine .inr ⟨⟨xs,xs[i],q,by simp[hlt]⟩,Pv (i+1),fun σ' H' p'=>⟨xs.length - (i+1),by omega,rfl,hlt,p'⟩,fun x H' y=>?_⟩
   obtain⟨e,y⟩:=y
   subst e
   exact hs i x σ _ (y xs q) p
 . have e:i=xs.length:=by omega
   subst e
   exact .inl ⟨⟨xs,q,Ah _⟩,hd σ H p⟩
theorem ib {lo:Int}{n:Nat}{g:TG}{tb:TS}{D:Ends}{σ:St}{H:Hp}(Pv:Nat->St->Hp->Prop) (h0:Pv 0 σ H)
   (hs:∀i σ H,i<n->Pv i σ H->g (.int (lo+i)) σ H fun σ2 H2=>tb { D with nx:=Pv (i+1),ct:=Pv (i+1),bk:=D.nx } σ2 H2) (hd:∀σ H,Pv n σ H->D.nx σ H) :
   ∃W:Nat->Nat->St->Hp->Prop,(∃m,W 0 m σ H)/\∀i m σ H,W i m σ H->
     ((Itr lo n).stop i H/\D.nx σ H)\/((Itr lo n).go i H/\∃N:St->Hp->Prop,(∀σ' H',N σ' H'->∃m',m'<m/\W (i+1) m' σ' H')/\∀x H',(Itr lo n).yld i H x H'->g x σ H' fun σ2 H2=>tb { D with nx:=N,ct:=N,bk:=D.nx } σ2 H2):=by
 refine⟨fun i m σ H=>m=n - i/\i<=n/\Pv i σ H,⟨n,by simp,AG _,h0⟩,?_⟩
 rintro i m σ H ⟨rfl,hi,p⟩
 by_cases hlt:i<n
 . refine .inr ⟨hlt,Pv (i+1),fun σ' H' p'=>⟨n - (i+1),by omega,rfl,hlt,p'⟩,fun x H' y=>?_⟩
   obtain⟨e,y⟩:=y
   subst e y
   exact hs i σ _ hlt p
 . have e:i=n:=by omega
   subst e
   exact .inl ⟨Ah _,hd σ H p⟩
abbrev R2:=V->V->Hp->VK->Prop
noncomputable def OpR (X:Cx) (f:Value->Value->Sem Value) (r:R2):Prop :=
 ∀(pins:List (Addr×Obj)) (s:Shared) (σ:St) (H:Hp) (x y:V) (v u:Value) (Q:VK),Inv X pins σ H s->RelV x v->RelV y u->r x y H Q->
   wpAny (model X.prog X.w) X.A (f v u) (EP X pins σ Q) X.xe s
noncomputable def UnR (X:Cx) (f:Value->Sem Value) (r:V->Hp->VK->Prop):Prop :=
 ∀(pins:List (Addr×Obj)) (s:Shared) (σ:St) (H:Hp) (x:V) (v:Value) (Q:VK),Inv X pins σ H s->RelV x v->r x H Q->
   wpAny (model X.prog X.w) X.A (f v) (EP X pins σ Q) X.xe s
noncomputable def cy (X:Cx) (f:Value) (r:List V->Hp->VK->Prop):Prop :=
 ∀(pins:List (Addr×Obj)) (s:Shared) (σ:St) (H:Hp) (xs:List V) (us:List Value) (Q:VK),Inv X pins σ H s->Vals xs us->r xs H Q->
   wpAny (model X.prog X.w) X.A (call f us) (EP X pins σ Q) X.xe s
noncomputable def tOp (r:R2) (ta tb:TE):TE:=fun σ H Q=>ta σ H fun x H1=>tb σ H1 fun y H2=>r x y H2 Q
noncomputable def tUn (r:V->Hp->VK->Prop) (ta:TE):TE:=fun σ H Q=>ta σ H fun x H1=>r x H1 Q
noncomputable def rI (C:Int->Int->Prop) (g:Int->Int->V):R2:=fun x y H Q=>∃i j,x=.int i/\y=.int j/\C i j/\Q (g i j) H
noncomputable def rI0 (g:Int->Int->V):R2:=fun x y H Q=>∃i j,x=.int i/\y=.int j/\Q (g i j) H
noncomputable def rU (g:Int->V):V->Hp->VK->Prop:=fun x H Q=>∃i,x=.int i/\Q (g i) H
section
variable {X:Cx}{a b c:Expr}{ta tb tc:TE}{pos:Pos}
theorem binT (ha:PE X a ta) (hb:PE X b tb) {pins:List (Addr×Obj)}{s:Shared}{σ:St}{H:Hp}{R:V->V->Hp->Prop}(I:Inv X pins σ H s)
   (h:ta σ H fun x H1=>tb σ H1 fun y H2=>R x y H2) {Q:Value->Shared->Prop} {f:Value->Value->Sem Value}
   (hf:∀v u s2 x y H2,Inv X pins σ H2 s2->RelV x v->RelV y u->R x y H2->wpAny (model X.prog X.w) X.A (f v u) Q X.xe s2) :
   wpAny (model X.prog X.w) X.A (eval a X.env) (fun v s₁=>wpAny (model X.prog X.w) X.A (eval b X.env) (fun u s₂=>wpAny (model X.prog X.w) X.A (f v u) Q X.xe s₂) X.xe s₁) X.xe s:=by
 refine thn (ha pins s σ H _ I h) fun v s1 ⟨x,H1,I1,r1,q1⟩=>?_
 refine thn (hb pins s1 σ H1 _ I1 q1) fun u s2 ⟨y,H2,I2,r2,q2⟩=>?_
 exact hf v u s2 x y H2 I2 r1 r2 q2
theorem a79 {op:Operator}{r:R2}(ho:OpR X (binaryOp op) r) (ha:PE X a ta) (hb:PE X b tb):PE X (.BinOp a op b pos) (tOp r ta tb):=by
 intro pins s σ H Q I h
 exact wpAny_BinOp (binT ha hb I h fun v u s2 x y H2 I2 rx ry q=>ho pins s2 σ H2 x y v u Q I2 rx ry q)
theorem aal {op:UnaryOp}{r:V->Hp->VK->Prop}(ho:UnR X (unaryOp op) r) (ha:PE X a ta):PE X (.UnaryOp op a pos) (tUn r ta):=by
 intro pins s σ H Q I h
 exact UnaryOp_ (thn (ha pins s σ H _ I h) fun v s1 ⟨x,H1,I1,r1,q1⟩=>ho pins s1 σ H1 x v Q I1 r1 q1)
theorem opI {f:Value->Value->Sem Value}{C:Int->Int->Prop}{g:Int->Int->Int}
   (rule:∀(i j:Int) (t u:Tok) (s:Shared) (Q:Value->Shared->Prop) (E:Value->Shared->Prop),C i j->Q (.int (g i j) s.toks) { s with toks:=s.toks+1 }->wpAny (model X.prog X.w) X.A (f (.int i t) (.int j u)) Q E s) :
   OpR X f (rI C fun i j=>.int (g i j)):=by
 intro pins s σ H x y v u Q I rx ry h
 obtain⟨i,j,rfl,rfl,hc,q⟩:=h
 obtain⟨t,rfl⟩:=rx
 obtain⟨t',rfl⟩:=ry
 exact rule i j t t' s _ _ hc ⟨.int (g i j),H,I.tok _,⟨_,rfl⟩,q⟩
theorem opI0 {f:Value->Value->Sem Value}{g:Int->Int->Int}
   (rule:∀(i j:Int) (t u:Tok) (s:Shared) (Q:Value->Shared->Prop) (E:Value->Shared->Prop),Q (.int (g i j) s.toks) { s with toks:=s.toks+1 }->wpAny (model X.prog X.w) X.A (f (.int i t) (.int j u)) Q E s) :
   OpR X f (rI0 fun i j=>.int (g i j)):=by
 intro pins s σ H x y v u Q I rx ry h
 obtain⟨i,j,rfl,rfl,q⟩:=h
 obtain⟨t,rfl⟩:=rx
 obtain⟨t',rfl⟩:=ry
 exact rule i j t t' s _ _ ⟨.int (g i j),H,I.tok _,⟨_,rfl⟩,q⟩
theorem opB0 {f:Value->Value->Sem Value}{g:Int->Int->Bool}
   (rule:∀(i j:Int) (t u:Tok) (s:Shared) (Q:Value->Shared->Prop) (E:Value->Shared->Prop),Q (.bool (g i j)) s->wpAny (model X.prog X.w) X.A (f (.int i t) (.int j u)) Q E s) :
   OpR X f (rI0 fun i j=>.bl (g i j)):=by
 intro pins s σ H x y v u Q I rx ry h
 obtain⟨i,j,rfl,rfl,q⟩:=h
 obtain⟨t,rfl⟩:=rx
 obtain⟨t',rfl⟩:=ry
 exact rule i j t t' s _ _ ⟨.bl (g i j),H,I,rfl,q⟩
noncomputable def CDiv (i j:Int):Prop:=0<j/\j<1073741824
noncomputable def CPow (i j:Int):Prop:=0<=j/\j<=1000000/\i.natAbs<2 ^ 64
noncomputable def CMul (i j:Int):Prop:=(-(2 ^ 64)<i/\i<2 ^ 64)\/(-(2 ^ 64)<j/\j<2 ^ 64)
theorem CMul.ok {i j:Int}(h:CMul i j):IntMulOk i j:=by
 rcases h with⟨h1,h2⟩|⟨h1,h2⟩
 . exact .of_left (intBits_le_64 h1 h2)
 . exact .of_right (intBits_le_64 h1 h2)
theorem cg:OpR X (binaryOp .Add) (rI0 fun i j=>.int (i+j)):=opI0 fun _ _ _ _ _ _ _ q=>add_int q
theorem a9o:OpR X (binaryOp .Sub) (rI0 fun i j=>.int (i - j)):=opI0 fun _ _ _ _ _ _ _ q=>sub_int q
theorem io:OpR X (binaryOp .Mult) (rI CMul fun i j=>.int (i*j)):=opI fun _ _ _ _ _ _ _ hc q=>mul_int q hc.ok
theorem et:OpR X (binaryOp .FloorDiv) (rI CDiv fun i j=>.int (i / j)):=opI fun i j _ _ _ _ _ hc q=>by
 have h1:(0:Int)<j:=hc.1
 have h2:j<1073741824:=hc.2
 exact floordiv_int (by omega) (by rw[Fb i (by omega)];exact q) (.inl (PyProof.noPylong_small (by omega)))
theorem cn:OpR X (binaryOp .Mod) (rI (fun _ j=>0<j) fun i j=>.int (i % j)):=opI fun i j _ _ _ _ _ hc q=>by
 have h1:(0:Int)<j:=hc
 exact mod_int' (by omega) (by rw[Int.fmod_eq_emod_of_nonneg i (by omega)];exact q)
theorem aac:OpR X (binaryOp .Pow) (rI CPow fun i j=>.int (i ^ j.toNat)):=opI fun _ _ _ _ _ _ _ hc q=>pow_int_small hc.1 hc.2.1 hc.2.2 q
theorem unI {f:Value->Sem Value}{g:Int->Int}
   (rule:∀(i:Int) (t:Tok) (s:Shared) (Q:Value->Shared->Prop) (E:Value->Shared->Prop),Q (.int (g i) s.toks) { s with toks:=s.toks+1 }->wpAny (model X.prog X.w) X.A (f (.int i t)) Q E s) :
   UnR X f (rU fun i=>.int (g i)):=by
 intro pins s σ H x v Q I rx h
 obtain⟨i,rfl,q⟩:=h
 obtain⟨t,rfl⟩:=rx
 exact rule i t s _ _ ⟨.int (g i),H,I.tok _,⟨_,rfl⟩,q⟩
theorem bu:UnR X (unaryOp .USub) (rU fun i=>.int (-i)):=unI fun _ _ _ _ _ q=>neg_int q
end
noncomputable def scal:V->V->Bool
 | .non,.non=>true|.non,.int _=>true|.int _,.non=>true|.non,.bl _=>true|.bl _,.non=>true|.non,.str _=>true|.str _,.non=>true
 | .int _,.int _=>true|.bl _,.bl _=>true|.str _,.str _=>true|.byt _,.byt _=>true
 | .int _,.str _=>true|.str _,.int _=>true|.bl _,.str _=>true|.str _,.bl _=>true
 | _,_=>false
noncomputable def rEq:R2:=fun x y H Q=>scal x y=true/\Q (.bl (decide (x=y))) H
noncomputable def rNe:R2:=fun x y H Q=>scal x y=true/\Q (.bl (!decide (x=y))) H
theorem zt {i j:Int}:decide (V.int i=V.int j)=(i == j):=by
 rw[BY]
 simp
theorem a3n {i j:Bool}:decide (V.bl i=V.bl j)=(i == j):=by
 rw[BY]
 simp
theorem yt {i j:Str}:decide (V.str i=V.str j)=(i == j):=by
 rw[BY]
 simp
theorem a01 {i j:Array UInt8}:decide (V.byt i=V.byt j)=(i.toList == j.toList):=by
 rw[BY]
 cases i
 cases j
 simp
section
variable {X:Cx}{a b c:Expr}{ta tb tc:TE}{pos:Pos}
theorem bj {pins:List (Addr×Obj)}{σ:St}{H:Hp}{s:Shared}{Q:VK}{k k':Bool}(I:Inv X pins σ H s) (q:Q (.bl k) H) (e:k=k'):EP X pins σ Q (.bool k') s:=by
 subst e
 exact⟨.bl k,H,I,rfl,q⟩
theorem bb:OpR X (compareOp .Eq) rEq:=by
 intro pins s σ H x y v u Q I rx ry h
 obtain⟨hs,q⟩:=h
 cases x with
 | non =>
   cases rx
   cases y with
   | non=>cases ry;exact PySem.EqNone.eq_none_none (bj I q (by simp))
   | bl j=>cases ry;exact PySem.EqNone.eq_none_bool (bj I q (by simp))
   | int j=>obtain⟨t',rfl⟩:=ry;exact PySem.EqNone.eq_none_int (bj I q (by simp))
   | str j=>obtain⟨t',rfl⟩:=ry;exact PySem.EqNone.eq_none_str (bj I q (by simp))
   | _=>exact absurd (show false=true from hs) Af
 | bl i =>
   cases rx
   cases y with
   | non=>cases ry;exact PySem.EqNone.eq_bool_none (bj I q (by simp))
   | bl j=>cases ry;exact eq_bool (bj I q a3n)
   | str j=>obtain⟨t',rfl⟩:=ry;exact PySem.EqMixed.eq_bool_str (bj I q (by simp))
   | _=>exact absurd (show false=true from hs) Af
 | int i =>
   obtain⟨t,rfl⟩:=rx
   cases y with
   | non=>cases ry;exact PySem.EqNone.eq_int_none (bj I q (by simp))
   | int j=>obtain⟨t',rfl⟩:=ry;exact eq_int (bj I q zt)
   | str j=>obtain⟨t',rfl⟩:=ry;exact PySem.EqMixed.eq_int_str (bj I q (by simp))
   | _=>exact absurd (show false=true from hs) Af
 | str i =>
   obtain⟨t,rfl⟩:=rx
   cases y with
   | non=>cases ry;exact PySem.EqNone.eq_str_none (bj I q (by simp))
   | bl j=>cases ry;exact PySem.EqMixed.eq_str_bool (bj I q (by simp))
   | int j=>obtain⟨t',rfl⟩:=ry;exact PySem.EqMixed.eq_str_int (bj I q (by simp))
   | str j=>obtain⟨t',rfl⟩:=ry;exact eq_str (bj I q yt)
   | _=>exact absurd (show false=true from hs) Af
 | byt i =>
   obtain⟨t,rfl⟩:=rx
   cases y with
   | byt j=>obtain⟨t',rfl⟩:=ry;exact PySem.W.eq_bytes (bj I q a01)
   | _=>exact absurd (show false=true from hs) Af
 | _=>cases y<;>exact absurd (show false=true from hs) Af
theorem qz:OpR X (compareOp .NotEq) rNe:=by
 intro pins s σ H x y v u Q I rx ry h
 obtain⟨hs,q⟩:=h
 cases x with
 | non =>
   cases rx
   cases y with
   | non=>cases ry;exact PySem.EqNone.ne_none_none (bj I q (by simp))
   | bl j=>cases ry;exact PySem.EqNone.ne_none_bool (bj I q (by simp))
   | int j=>obtain⟨t',rfl⟩:=ry;exact PySem.EqNone.ne_none_int (bj I q (by simp))
   | str j=>obtain⟨t',rfl⟩:=ry;exact PySem.EqNone.ne_none_str (bj I q (by simp))
   | _=>exact absurd (show false=true from hs) Af
 | bl i =>
   cases rx
   cases y with
   | non=>cases ry;exact PySem.EqNone.ne_bool_none (bj I q (by simp))
   | bl j=>cases ry;exact ne_bool (bj I q (congrArg not a3n))
   | str j=>obtain⟨t',rfl⟩:=ry;exact PySem.EqMixed.ne_bool_str (bj I q (by simp))
   | _=>exact absurd (show false=true from hs) Af
 | int i =>
   obtain⟨t,rfl⟩:=rx
   cases y with
   | non=>cases ry;exact PySem.EqNone.ne_int_none (bj I q (by simp))
   | int j=>obtain⟨t',rfl⟩:=ry;exact ne_int (bj I q (congrArg not zt))
   | str j=>obtain⟨t',rfl⟩:=ry;exact PySem.EqMixed.ne_int_str (bj I q (by simp))
   | _=>exact absurd (show false=true from hs) Af
 | str i =>
   obtain⟨t,rfl⟩:=rx
   cases y with
   | non=>cases ry;exact PySem.EqNone.ne_str_none (bj I q (by simp))
   | bl j=>cases ry;exact PySem.EqMixed.ne_str_bool (bj I q (by simp))
   | int j=>obtain⟨t',rfl⟩:=ry;exact PySem.EqMixed.ne_str_int (bj I q (by simp))
   | str j=>obtain⟨t',rfl⟩:=ry;exact ne_str (bj I q (congrArg not yt))
   | _=>exact absurd (show false=true from hs) Af
 | byt i =>
   obtain⟨t,rfl⟩:=rx
   cases y with
   | byt j=>obtain⟨t',rfl⟩:=ry;exact PySem.W.ne_bytes (bj I q (congrArg not a01))
   | _=>exact absurd (show false=true from hs) Af
 | _=>cases y<;>exact absurd (show false=true from hs) Af
theorem ku:OpR X (compareOp .Lt) (rI0 fun i j=>.bl (decide (i<j))):=opB0 fun _ _ _ _ _ _ _ q=>lt_int q
theorem mx:OpR X (compareOp .Gt) (rI0 fun i j=>.bl (decide (j<i))):=opB0 fun _ _ _ _ _ _ _ q=>gt_int q
theorem a4m:OpR X (compareOp .In) (fun x y H Q=>∃i j,x=.str i/\y=.str j/\Q (.bl (!(Builtin.Str.occurrences j i 0 j.length 1).isEmpty)) H):=by
 intro pins s σ H x y v u Q I rx ry h
 obtain⟨i,j,rfl,rfl,q⟩:=h
 obtain⟨t,rfl⟩:=rx
 obtain⟨t',rfl⟩:=ry
 exact in_str (bj I q rfl)
theorem wt:OpR X (compareOp .Is) (fun x y H Q=>y=.non/\Q (.bl (decide (x=.non))) H):=by
 intro pins s σ H x y v u Q I rx ry h
 obtain⟨rfl,q⟩:=h
 cases ry
 refine is_none_gen (bj I q ?_)
 cases x<;>first
   | (cases rx;rfl)
   | (obtain⟨t,rfl⟩:=rx;rfl)
theorem a85:OpR X (compareOp .IsNot) (fun x y H Q=>y=.non/\Q (.bl (!decide (x=.non))) H):=by
 intro pins s σ H x y v u Q I rx ry h
 obtain⟨rfl,q⟩:=h
 cases ry
 refine isnot_none_gen (bj I q ?_)
 cases x<;>first
   | (cases rx;rfl)
   | (obtain⟨t,rfl⟩:=rx;rfl)
theorem av (b:Expr) {op:CmpOp}(h:op≠.In:=by decide) (h2:op≠.NotIn:=by decide):behindInMarks op b=false:=by
 have e1:(op == CmpOp.In)=false:=by cases op<;>first|rfl|exact absurd rfl h
 have e2:(op == CmpOp.NotIn)=false:=by cases op<;>first|rfl|exact absurd rfl h2
 cases b<;>simp[behindInMarks,e1,e2]
theorem mj {op:CmpOp}{r:R2}(ho:OpR X (compareOp op) r) (ha:PE X a ta) (hb:PE X b tb) (hm:behindInMarks op b=false):PE X (.Compare a [op] [b] pos) (tOp r ta tb):=by
 intro pins s σ H Q I h
 exact wpAny_Compare1 (binT ha hb I h fun v u s2 x y H2 I2 rx ry q=>ho pins s2 σ H2 x y v u Q I2 rx ry q) hm
noncomputable def nq (t:TE):TT:=fun σ H Q=>t σ H fun x H'=>∃k,x=.bl k/\Q k H'
theorem js {op:CmpOp}{r:R2}(ho:OpR X (compareOp op) r) (ha:PE X a ta) (hb:PE X b tb) (hm:behindInMarks op b=false):PT X (.Compare a [op] [b] pos) (nq (tOp r ta tb)):=by
 intro pins s σ H Q I h
 refine Gp (thn (ha pins s σ H _ I h) fun v s1 ⟨x,H1,I1,r1,q1⟩=>thn (hb pins s1 σ H1 _ I1 q1) fun u s2 ⟨y,H2,I2,r2,q2⟩ =>
   thn (ho pins s2 σ H2 x y v u _ I2 r1 r2 q2) fun c s3 ⟨z,H3,I3,r3,k,e,q3⟩=>?_) hm
 subst e
 cases r3
 exact BH ⟨H3,I3,q3⟩
noncomputable def a3e (r r':R2) (ta tb tc:TE):TE:=fun σ H Q=>ta σ H fun x H1=>tb σ H1 fun y H2=>r x y H2 fun z H3=>∃k,z=.bl k/\
 (if k=true then tc σ H3 fun w' H4=>r' y w' H4 Q else Q (.bl false) H3)
theorem a5e {op op':CmpOp}{r r':R2}(ho:OpR X (compareOp op) r) (ho':OpR X (compareOp op') r') (ha:PE X a ta) (hb:PE X b tb) (hc:PE X c tc)
   (hm:lastMarks [op,op'] [b,c]=false:=by with_unfolding_all rfl):PT X (.Compare a [op,op'] [b,c] pos) (nq (a3e r r' ta tb tc)):=by
 intro pins s σ H Q I h
 refine isTrue_chain (thn (ha pins s σ H _ I h) fun v s1 ⟨x,H1,I1,r1,q1⟩=>test_link (thn (hb pins s1 σ H1 _ I1 q1) fun u s2 ⟨y,H2,I2,r2,q2⟩ =>
   thn (ho pins s2 σ H2 x y v u _ I2 r1 r2 q2) fun d s3 ⟨z,H3,I3,r3,k,e,q3⟩=>?_)) hm
 subst e
 cases r3
 refine BH ?_
 cases k with
 | false =>
   obtain⟨k',e',q'⟩:=q3
   cases e'
   exact ite_ff ⟨H3,I3,q'⟩
 | true =>
   refine ite_tt (test_last (thn (hc pins s3 σ H3 _ I3 q3) fun w' s4 ⟨z',H4,I4,r4,q4⟩=>thn (ho' pins s4 σ H4 y z' u w' _ I4 r2 r4 q4) fun d' s5 ⟨z2,H5,I5,r5,k2,e2,q5⟩=>?_))
   subst e2
   cases r5
   exact BH ⟨H5,I5,q5⟩
theorem jk:(sizeLine:Nat)<2 ^ 63:=by rw[Gc];decide
theorem gx:OpR X (binaryOp .Add) (fun x y H Q=>∃i j,x=.str i/\y=.str j/\i.length+j.length<=sizeLine/\Q (.str (i++j)) H):=by
 intro pins s σ H x y v u Q I rx ry h
 obtain⟨i,j,rfl,rfl,hz,q⟩:=h
 obtain⟨t,rfl⟩:=rx
 obtain⟨t',rfl⟩:=ry
 exact add_str (fun t' tk=>⟨.str (i++j),H,I.tok _,⟨_,rfl⟩,q⟩) hz
theorem jy {x:V}{us:List Value}(r:Vals [x] us):∃u,us=[u]/\RelV x u:=by
 cases r with
 | cons r1 r2=>cases r2;exact⟨_,rfl,r1⟩
theorem aay {x y:V}{us:List Value}(r:Vals [x,y] us):∃u w',us=[u,w']/\RelV x u/\RelV y w':=by
 cases r with
 | cons r1 r2 =>
   cases r2 with
   | cons r3 r4=>cases r4;exact⟨_,_,rfl,r1,r3⟩
theorem a2b (hc:X.calm=true):cy X (.builtin "min") (fun xs H Q=>∃i j,xs=[.int i,.int j]/\Q (.int (if j<i then j else i)) H):=by
 intro pins s σ H xs us Q I r h
 obtain⟨i,j,rfl,q⟩:=h
 obtain⟨u,w',rfl,⟨t,rfl⟩,⟨t',rfl⟩⟩:=aay r
 refine min_two_ints (I.ok.hd hc) fun h' tk k=>⟨_,H,I.kept k,?_,q⟩
 by_cases hj:j<i
 . rw[if_pos hj,if_pos hj];exact⟨_,rfl⟩
 . rw[if_neg hj,if_neg hj];exact⟨_,rfl⟩
end
structure ObjM (h:Heap) (x dx C:Addr) (mA:Str->Option Value):Prop where
 obj:h.get? x=some (Cs C dx)
 ns:h.Ns1 dx mA
 ne:dx≠x
theorem a2d {h:Heap}{dx:Addr}{mA:Str->Option Value}(n:h.Ns1 dx mA):∃od,h.get? dx=some od/\∀name,EF name od=some (mA name):=by
 obtain⟨o,es,ep,ho,hd,hk,_,hm⟩:=n
 refine⟨o,ho,fun name=>?_⟩
 have e:=hm name
 unfold nsFind findBy at e
 rw[<- Hw] at e
 unfold EF
 rw[hd]
 dsimp only
 split
 . rename_i y q
   rw[q] at e
   exact congrArg some e
 . rename_i q
   rw[q] at e
   have a:es.toList.any (·.refKey)=false:=by
     rw[List.any_eq_false]
     intro y hy
     obtain⟨z,t,hkey⟩:=hk y (Array.mem_toList_iff.mp hy)
     simp[DictEntry.refKey,hkey]
   have a':¬ es.toList.any (·.refKey)=true:=by rw[a];exact Af
   rw[if_neg a']
   exact congrArg some e
theorem ObjM.look {h:Heap}{x dx C:Addr}{mA:Str->Option Value}(I:ObjM h x dx C mA):∃od,PySem.W.InstAt h x (Cs C dx) C (some od)/\∀name,EF name od=some (mA name) :=
 let ⟨od,ho,hl⟩:=a2d I.ns
 ⟨od,⟨I.obj,rfl,rfl,ho⟩,hl⟩
section
variable {prog:Program}{w:World}{A:Around}{E:Value->Shared->Prop}{s:Shared}{K:Ab}{x dx C f:Addr}{mA:Str->Option Value}{name:Str}{v:Value}
theorem a7k {expr:Bool}{Q:Value->Shared->Prop}(X:K.In s.heap) (I:ObjM s.heap x dx C mA) (hg:CY K C name=true) (hh:Dl K C=true)
   (ha:Ay K (.ref C) name=some none) (hv:mA name=some v) (hv':Ic v=true) (h:Q v { s with toks:=s.toks+1 }) :
   wpAny (model prog w) A (getAttr (.ref x) name expr) Q E s:=by
 obtain⟨od,J,hl⟩:=I.look
 exact PySem.W.get_value X J (EC hg).1 (PySem.W.findObj_own hh ha rfl (by rw[hl,hv])) hv' h
theorem a5a {pl:Sem Bool}{Q:Value×List Value->Shared->Prop}(X:K.In s.heap) (I:ObjM s.heap x dx C mA) (hg:CY K C name=true)
   (hf:Ay K (.ref C) name=some (some (.ref f))) (ht:Bp K (.ref f)=true) (hv:mA name=none) (h:Q (.ref f,[.ref x]) s) :
   wpAny (model prog w) A (getMethod (.ref x) name pl) Q E s:=by
 obtain⟨od,J,hl⟩:=I.look
 exact PySem.W.method_fn X J (EC hg).1 (EC hg).2 hf (beq_iff_eq.mp ht) (by show (EF name od).map (·.isSome)=some false;rw[hl,hv];rfl) h
theorem a81 {ns:List Str}{Q:Unit->Shared->Prop}(X:K.In s.heap) (I:ObjM s.heap x dx C mA)
   (hs:Ay K (.ref C) "__setattr__" = some (some (.builtin "object.__setattr__"))) (hp:DX K C=true) (ht:FS K C name=some none) (hh:Dl K C=true)
   (hw:Hu mA ns) (hsz:ns.length<=sizeLine)
   (h:∀h',ObjM h' x dx C (fun y=>if y=name then some v else mA y)->Ct dx s.heap h'->Q () { s with heap:=h',toks:=s.toks+2 }) :
   wpAny (model prog w) A (setAttr (.ref x) name v) Q E s:=by
 obtain⟨od,J,hl⟩:=I.look
 refine PySem.W.set_plain X J hs (PySem.W.osa_open (s:={ s with toks:=s.toks+1 }) (r:=none) X J hp ht fun b=>?_)
 obtain⟨cd,hc,hd'⟩:=PySem.W.any_some hh
 have hx:s.heap.get? x=some ⟨.ref C,some dx,.plain,#[]⟩:=I.obj
 refine Aa (Ae (Aa (Aa (wpAny_loadPart hx (Aa (PySem.W.Looks.here (s:={ s with toks:=s.toks+1 }) (PySem.W.looks_clsIn X hc) ?_))))))
 rw[hd']
 refine Ae (a:=some dx) (Aa (Ae (Aa ?_)))
 refine wpAny_nsSet1 (s:={ s with toks:=s.toks+1 }) I.ns fun h' hn2 hs2=>?_
 obtain⟨oD,esD,epD,hoD,hdD,hcD⟩:=hn2.count (PySem.Within.cons name v hw)
 refine Aa (wpAny_lookBehind hoD (by rw[hdD];exact pastItsLine_dict (Ax hcD (by rw[A0];omega))) ?_)
 exact Ae (h _ ⟨(hs2.2 _ (AO I.ne)).trans I.obj,hn2,I.ne⟩ hs2)
theorem a5s {R:Result->Shared->Prop}{vs:List Value}{kw:List (Str×Value)}(X:K.In s.heap) (hm:Es K C=true)
   (hi:Ay K (.ref C) "__init__" = some (some (.ref f))) (hf:PySem.W.typeIn K (.ref f)=some (.type "function"))
   (h:codeAny (model prog w) (A.under (.builtin "type.__call__" ⟨.ref C::vs,kw⟩)) (.call (.ref f) ⟨.ref (s.heap.objs.size+1)::vs,kw⟩) (PySem.W.InitBack (s.heap.objs.size+1) R)
     { s with heap:=(s.heap.push BW).push (Cs C s.heap.objs.size) }) :
   codeAny (model prog w) A (.call (.ref C) ⟨vs,kw⟩) R s:=by
 obtain⟨hh,g,d,t,os⟩:=s
 exact PySem.W.make_core (PySem.W.makes_of X hm) (PySem.W.looks_findIn X hi) (fun self=>PySem.W.bind_fn X self hf) (.inl rfl) h
end
noncomputable def putF (f:Str) (v:V):List (Str×V)->List (Str×V)
 | []=>[(f,v)]
 | (g,x)::r=>if g=f then (g,v)::r else (g,x)::putF f v r
theorem am (f g:Str) (v:V):∀fs:List (Str×V),(putF f v fs).lookup g=if g=f then some v else fs.lookup g
 | []=>by
   show Dw g [(f,v)]=_
   by_cases h:g=f
   . have hb:(g == f)=true:=beq_iff_eq.mpr h
     simp only[Dw,hb,if_pos h]
   . have hb:(g == f)=false:=beq_eq_false_iff_ne.mpr h
     simp only[Dw,hb,if_neg h]
 | (k,x)::r=>by
   have ih:=am f g v r
   rw[show putF f v ((k,x)::r)=(if k=f then (k,v)::r else (k,x)::putF f v r) from rfl]
   by_cases hk:k=f
   . rw[if_pos hk]
     by_cases h:g=k
     . have hb:(g == k)=true:=beq_iff_eq.mpr h
       simp only[Dw,hb,if_pos (h.trans hk)]
     . have hb:(g == k)=false:=beq_eq_false_iff_ne.mpr h
       simp only[Dw,hb,if_neg (fun e:g=f=>h (e.trans hk.symm))]
   . rw[if_neg hk]
     by_cases h:g=k
     . have hb:(g == k)=true:=beq_iff_eq.mpr h
       simp only[Dw,hb,if_neg (fun e:g=f=>hk (h.symm.trans e))]
     . have hb:(g == k)=false:=beq_eq_false_iff_ne.mpr h
       simp only[Dw,hb]
       exact ih
theorem ln (f:Str) (v:V):∀fs:List (Str×V),f∈(putF f v fs).map (·.1)/\∀g,g∈fs.map (·.1)->g∈(putF f v fs).map (·.1)
 | []=>⟨by simp[putF],fun g h=>by simp at h⟩
 | (k,x)::r=>by
   obtain⟨i1,i2⟩:=ln f v r
   rw[show putF f v ((k,x)::r)=(if k=f then (k,v)::r else (k,x)::putF f v r) from rfl]
   by_cases hk:k=f
   . rw[if_pos hk]
     subst hk
     exact⟨by simp,fun g h=>by simpa using h⟩
   . rw[if_neg hk]
     refine⟨?_,fun g h=>?_⟩
     . rw[AA]
       exact Ao _ i1
     . rw[AA] at h |-
       rcases Al.mp h with e|e
       . exact Al.mpr (.inl e)
       . exact Ao _ (i2 g e)
theorem bm (f:Str) (v:V):∀fs:List (Str×V),(putF f v fs).length<=fs.length+1
 | []=>by simp[putF]
 | (k,x)::r=>by
   have ih:=bm f v r
   rw[show putF f v ((k,x)::r)=(if k=f then (k,v)::r else (k,x)::putF f v r) from rfl]
   by_cases hk:k=f
   . rw[if_pos hk,A0,A0];omega
   . rw[if_neg hk,A0,A0];omega
theorem RelO.some_of {v:V}{o:Option Value}(r:RelO (some v) o):∃u,o=some u/\RelV v u:=by
 cases o with
 | none=>exact (show False from r).elim
 | some u=>exact⟨u,rfl,r⟩
theorem RelO.none_of {o:Option Value}(r:RelO none o):o=none:=by
 cases o with
 | none=>rfl
 | some u=>exact (show False from r).elim
theorem a4l {v:V}{u:Value}(r:RelV v u):Ic u=true:=by
 cases v with
 | non=>cases (show u=Value.none from r);rfl
 | bl b=>cases (show u=Value.bool b from r);rfl
 | int i=>obtain⟨t,e⟩:=(show ∃t,u=Value.int i t from r);cases e;rfl
 | str x=>obtain⟨t,e⟩:=(show ∃t,u=Value.str x t from r);cases e;rfl
 | byt b=>obtain⟨t,e⟩:=(show ∃t,u=Value.bytes b t from r);cases e;rfl
 | flt b=>obtain⟨t,e⟩:=(show ∃t,u=Value.float b t from r);cases e;rfl
 | ref a=>cases (show u=Value.ref a from r);rfl
 | ty n=>cases (show u=Value.type n from r);rfl
section
variable {P:Program}{w:World}{H H':Hp}{h h':Heap}{a C dx:Addr}{fs fs':List (Str×V)}
theorem sn (hok:HOk P w H h) (e:H a=some (.ins C dx fs)):∃mA,ObjM h a dx C mA/\(∀f,RelO (fs.lookup f) (mA f))/\Hu mA (fs.map (·.1))/\fs.length<=1000/\H dx=some (.own a):=by
 obtain⟨d,z,ne,ob,mA,n,r,q⟩:=(show ObjOk P w H h a (.ins C dx fs) from hok a _ e)
 exact⟨mA,⟨ob,n,ne⟩,r,q,z,d⟩
end
structure Cls (K:Ab) (C:Addr):Prop where
 pg:CY K C IF=true
 hd:Dl K C=true
 po:DX K C=true
 sa:Ay K (.ref C) "__setattr__" = some (some (.builtin "object.__setattr__"))
theorem Cls.get {K:Ab}{C:Addr}(c:Cls K C) (f:Str):CY K C f=true:=c.pg
noncomputable def NoAttr (K:Ab) (C:Addr) (f:Str):Prop:=Ay K (.ref C) f=some none
theorem NoAttr.taker {K:Ab}{C:Addr}{f:Str}(n:NoAttr K C f):FS K C f=some none:=by
 unfold FS
 rw[show Ay K (.ref C) f=some none from n]
 rfl
structure Con (K:Ab) (C:Addr) (f:Str) (v:V) (u:Value):Prop where
 at_:Ay K (.ref C) f=some (some u)
 rel:RelV v u
 get:PySem.W.specialIn K u "__get__" = some none
 cp:PySem.W.copiedNames.contains f=false
structure Meth (K:Ab) (C:Addr) (m:Str) (f:Addr):Prop where
 at_:Ay K (.ref C) m=some (some (.ref f))
 fn:Bp K (.ref f)=true
 kp:Cq K (.ref f)=true
section
variable {X:Cx}{pins:List (Addr×Obj)}{σ:St}{H:Hp}{s:Shared}{a C dx:Addr}{fs:List (Str×V)}{f:Str}{v:V}{A:Around}{E:Value->Shared->Prop}
theorem a0p {b:Bool}{Q:Value->Shared->Prop}(I:Inv X pins σ H s) (e:H a=some (.ins C dx fs)) (c:Cls X.K C) (n:NoAttr X.K C f) (l:fs.lookup f=some v)
   (h:∀u s',Inv X pins σ H s'->RelV v u->Q u s'):wpAny (model X.prog X.w) A (getAttr (.ref a) f b) Q E s:=by
 obtain⟨mA,O,r,_,_,_⟩:=sn I.hok e
 obtain⟨u,hu,ru⟩:=RelO.some_of (v:=v) (o:=mA f) (by rw[<- l];exact r f)
 exact a7k I.kIn O (c.get f) c.hd n hu (a4l ru) (h u _ (I.tok _) ru)
theorem r6 {m:Str}{g:Addr}{pl:Sem Bool}{Q:Value×List Value->Shared->Prop}(I:Inv X pins σ H s) (e:H a=some (.ins C dx fs)) (c:Cls X.K C) (k:Meth X.K C m g) (l:fs.lookup m=none)
   (h:Q (.ref g,[.ref a]) s):wpAny (model X.prog X.w) A (getMethod (.ref a) m pl) Q E s:=by
 obtain⟨mA,O,r,_,_,_⟩:=sn I.hok e
 have hn:mA m=none:=RelO.none_of (by rw[<- l];exact r m)
 exact a5a I.kIn O (c.get m) k.at_ k.fn hn h
theorem a0t {y:V}{u:Value}{Q:Unit->Shared->Prop}(I:Inv X pins σ H s) (e:H a=some (.ins C dx fs)) (c:Cls X.K C) (n:NoAttr X.K C f) (hl:fs.length<1000) (ry:RelV y u)
   (h:∀s',Inv X pins σ (upd H a (.ins C dx (putF f y fs))) s'->Q () s'):wpAny (model X.prog X.w) A (setAttr (.ref a) f u) Q E s:=by
 obtain⟨mA,O,r,wi,_,ho⟩:=sn I.hok e
 have hz:(fs.map (·.1)).length<=sizeLine:=by rw[Ac,Gc];omega
 refine a81 I.kIn O c.sa c.po n.taker c.hd wi hz fun h' O' sb=>h _ ?_
 have hd:∃o,h'.get? dx=some o:=let ⟨o,_,_,e',_⟩:=O'.ns;⟨o,e'⟩
 refine I.write (x:=a) (e:=dx) (by rw[e];exact True.intro) (.inr ho) (fun b q hb z=>(sb.2 b hb).trans z) hd ?_
 refine⟨by rw[ah O.ne];exact ho,?_,O.ne,O'.obj,_,O'.ns,fun g=>?_,fun g hg=>?_⟩
 . have:=bm f y fs;omega
 . show RelO ((putF f y fs).lookup g) (if g=f then some u else mA g)
   rw[am]
   by_cases q:g=f
   . rw[if_pos q,if_pos q];exact ry
   . rw[if_neg q,if_neg q];exact r g
 . by_cases q:g=f
   . rw[q];exact (ln f y fs).1
   . refine (ln f y fs).2 g (wi g fun z=>hg ?_)
     show (if g=f then some u else mA g)=none
     rw[if_neg q];exact z
theorem Inv.made (I:Inv X pins σ H s):Inv X pins σ (upd (upd H s.heap.objs.size (.own (s.heap.objs.size+1))) (s.heap.objs.size+1) (.ins C s.heap.objs.size []))
   { s with heap:=(s.heap.push BW).push (Cs C s.heap.objs.size) }:=by
 have e1:(s.heap.push BW).get? s.heap.objs.size=some BW:=An s.heap rfl
 have e2:((s.heap.push BW).push (Cs C s.heap.objs.size)).get? (s.heap.objs.size+1)=some (Cs C s.heap.objs.size):=by
   have:=An (s.heap.push BW) (o:=Cs C s.heap.objs.size) rfl
   rwa [Bg] at this
 have e3:(s.heap.push BW).Ns s.heap.objs.size (fun _=>none):=⟨BW,#[],_,e1,rfl,(fun e he=>absurd he (by simp)),fun _=>rfl⟩
 have I1:=I.laid (a:=s.heap.objs.size) (o:=.own (s.heap.objs.size+1)) (h':=s.heap.push BW) (t':=s.toks) (fun b u q=>Ad _ q) (Ah _) ⟨_,e1⟩
 refine I1.laid (a:=s.heap.objs.size+1) (o:=.ins C s.heap.objs.size []) (t':=s.toks) (fun b u q=>Ad _ q) (Et (Bg _ _)) ?_
 have ne:s.heap.objs.size≠s.heap.objs.size+1:=Az (Cb _)
 refine⟨by rw[ah ne,aa],AG _,ne,e2,fun _=>none,(Heap.Ns1.of_empty e3).at fun o q=>Ad _ q,fun _=>True.intro,fun y hy=>absurd rfl hy⟩
theorem a7m {prog:Program}{w:World}{env:Env}{e:Expr}{f:Str}{pos:Pos}{s:Shared}{Q:Value->Shared->Prop}(hb:attributeBase e f env (eval e env)=eval e env)
   (h:wpAny (model prog w) A (eval e env) (fun o s₁=>wpAny (model prog w) A (getAttr o f true) Q E s₁) E s):wpAny (model prog w) A (eval (.Attribute e f pos) env) Q E s :=
 Attribute_any_ h (by rw[arm_eval_Attribute,hb])
end
noncomputable def tFld (K:Ab) (ta:TE) (f:Str):TE:=fun σ H Q=>ta σ H fun x H1=>∃a C dx fs v,x=.ref a/\H1 a=some (.ins C dx fs)/\Cls K C/\NoAttr K C f/\fs.lookup f=some v/\Q v H1
noncomputable def sFld (K:Ab) (ta tv:TE) (f:Str):TS:=fun D σ H=>tv σ H fun y H1=>ta σ H1 fun x H2=>∃a C dx fs,x=.ref a/\H2 a=some (.ins C dx fs)/\Cls K C/\NoAttr K C f/\fs.length<1000/\
 D.nx σ (upd H2 a (.ins C dx (putF f y fs)))
section
variable {X:Cx}{o e value:Expr}{f:Str}{pos pos' tpos:Pos}{ta tv:TE}
theorem aa7 (he:PE X e ta) (hb:attributeBase e f X.env (eval e X.env)=eval e X.env):PE X (.Attribute e f pos) (tFld X.K ta f):=by
 intro pins s σ H Q I h
 refine a7m hb (thn (he pins s σ H _ I h) fun u s1 ⟨x,H1,I1,rx,a,C,dx,fs,v,ex,ea,c,n,l,q⟩=>?_)
 subst ex
 obtain rfl:u=Value.ref a:=rx
 exact a0p I1 ea c n l fun u' s2 I2 ru=>⟨v,H1,I2,ru,q⟩
theorem a97 (ha:PE X o ta) (hv:PE X value tv) (hs:swapsWith value (some (.Attribute o f pos')) pos.line X.env=pure false):PS X (.Assign [.Attribute o f pos'] value pos) (sFld X.K ta tv f):=by
 intro pins s σ H D I h
 refine plainObj_wpAny_Assign_Attribute (thn (hv pins s σ H _ I h) fun u s1 ⟨y,H1,I1,ry,q⟩=>thn (ha pins s1 σ H1 _ I1 q) fun ov s2 ⟨x,H2,I2,rx,a,C,dx,fs,ex,ea,c,n,l,q2⟩=>?_) hs
 subst ex
 obtain rfl:ov=Value.ref a:=rx
 exact a0t I2 ea c n l ry fun s3 I3=>⟨σ,_,I3,q2⟩
end
section
variable {X:Cx}{pins:List (Addr×Obj)}{σ:St}{H:Hp}{s:Shared}{A:Around}{E:Value->Shared->Prop}{Q:Value->Shared->Prop}{c:Value}{b:Bool}
end
structure Room (k:Nat) (A:Around):Prop where
 hd:A.handled=none
 dp:A.depth+3*k+5<recursionLimit
 un:A.units+16*k+200<cLine
theorem Room.mono {j k:Nat}{A:Around}(r:Room k A) (h:j<=k):Room j A:=⟨r.hd,by have:=r.dp;omega,by have:=r.un;omega⟩
theorem Room.deeper {k:Nat}{A:Around}(r:Room (k+1) A) (env:Env):Room k (A.deeper env) :=
 ⟨r.hd,by have:=r.dp;show A.depth+1+3*k+5<_;omega,by have:=r.un;show A.units+3+16*k+200<_;omega⟩
theorem a0z {A:Around}{C:Addr}{us:List Value}{kw:List (Str×Value)}:(A.under (.builtin "type.__call__" ⟨.ref C::us,kw⟩)).depth=A.depth+1:=by
 first|rfl|simp[Hx,Code.weight,Code.isCreation,Code.isGuard,Code.isCaller,IW,Hy,guardIds]
theorem a0j {A:Around}{C:Addr}{us:List Value}{kw:List (Str×Value)}:(A.under (.builtin "type.__call__" ⟨.ref C::us,kw⟩)).units=A.units+1:=by
 first|rfl|simp[Hx,Code.cUnits,IW,Hy]
theorem Room.make {k:Nat}{A:Around}(r:Room (k+1) A) (C:Addr) (us:List Value) (kw:List (Str×Value)):Room k (A.under (.builtin "type.__call__" ⟨.ref C::us,kw⟩)) :=
 ⟨r.hd,by have:=r.dp;rw[a0z];omega,by have:=r.un;rw[a0j];omega⟩
theorem Room.depth {k:Nat}{A:Around}(r:Room k A):A.depth<recursionLimit:=by have:=r.dp;omega
theorem Room.units {k:Nat}{A:Around}(r:Room k A):A.units+64<cLine:=by have:=r.un;omega
noncomputable def tNil:TA:=fun _ H Q=>Q [] H
noncomputable def br (ta:TE) (tr:TA):TA:=fun σ H Q=>ta σ H fun x H1=>tr σ H1 fun xs H2=>Q (x::xs) H2
section
variable {X:Cx}{e:Expr}{es:List Expr}{te:TE}{t:TA}{pos:Pos}
theorem ij:PA X [] tNil:=fun _ _ _ _ H Q I h=>Fh ⟨[],H,I,.nil,h⟩
theorem cu (ha:PE X e te) (hr:PA X es t) (hs:starEach (e::es) X.env=(false,eval e X.env)::starEach es X.env:=by rfl):PA X (e::es) (br te t):=by
 intro pos pins s σ H Q I h
 rw[hs]
 show wpAny _ _ (spliced ((false,eval e X.env)::backTo pos (starEach es X.env))) _ _ s
 refine DH (thn (ha pins s σ H _ I h) fun u s1 ⟨x,H1,I1,r1,q1⟩=>?_)
 exact thn (hr pos pins s1 σ H1 _ I1 q1) fun us s2 ⟨xs,H2,I2,r2,q2⟩=>⟨x::xs,H2,I2,.cons r1 r2,q2⟩
noncomputable def tTup (t:TA):TE:=fun σ H Q=>t σ H fun xs H1=>xs.length<=sizeLine/\∀p,H1 p=none->Q (.ref p) (upd H1 p (.tup xs))
noncomputable def tLst (t:TA):TE:=fun σ H Q=>t σ H fun xs H1=>xs.length<=sizeLine/\∀p,H1 p=none->Q (.ref p) (upd H1 p (.lst xs))
theorem a3l {x1} (h:PA X es t):PE X (.Tuple es x1 pos) (tTup t):=by
 intro pins s σ H Q I hq
 refine wpAny_Tuple_spliced (thn (h pos pins s σ H _ I hq) fun us s1 ⟨xs,H1,I1,r,z,q⟩=>⟨by rw[<- r.length];exact z,?_⟩)
 have hf:H1 s1.heap.objs.size=none:=I1.hok.fresh (Ah _)
 refine⟨.ref s1.heap.objs.size,upd H1 s1.heap.objs.size (.tup xs),I1.laid (t':=s1.toks) (fun b u e=>Ad _ e) (Ah _) ?_,rfl,q _ hf⟩
 exact⟨z,us,r,⟨_,An _ rfl,rfl,_,rfl⟩⟩
theorem yd (h:PA X es t):PE X (.List es pos) (tLst t):=by
 intro pins s σ H Q I hq
 refine wpAny_List_spliced (thn (h pos pins s σ H _ I hq) fun us s1 ⟨xs,H1,I1,r,z,q⟩=>⟨by rw[<- r.length];exact z,?_⟩)
 have hf:H1 s1.heap.objs.size=none:=I1.hok.fresh (Ah _)
 refine⟨.ref s1.heap.objs.size,upd H1 s1.heap.objs.size (.lst xs),I1.laid (t':=s1.toks) (fun b u e=>Ad _ e) (Ah _) ?_,rfl,q _ hf⟩
 exact⟨z,us,0,r,An _ rfl⟩
end
abbrev Sp:=List V->Hp->VK->XK->Prop
abbrev CXT:=List Env->Hp->Shared->XK->Value->Shared->Prop
structure Env0 (P:Program) (w:World) (K:Ab) (mg:Str->Option Value) (base:Heap) (A:Around) (outer:List Env) (s:Shared) (H:Hp):Prop where
 frames:A.frames=some outer
 mod:Mod K mg base
 bs:∀b o,base.get? b=some o->s.heap.get? b=some o/\H b=none
 bsz:base.objs.size<=s.heap.objs.size
 funs:s.heap.FunFrames base outer
 frf:∀b∈frs outer,H b=none
 hok:HOk P w H s.heap
 bare:AllBare s.gens
noncomputable def CE (outer:List Env) (P:Program) (w:World) (H:Hp) (s:Shared) (Q:VK) (u:Value) (s':Shared):Prop :=
 ∃v H',s'.os=s.os/\AllBare s'.gens/\Un (frs outer) [] H H' s.heap s'.heap/\HOk P w H' s'.heap/\RelV v u/\Q v H'
noncomputable def CR (CX:CXT) (outer:List Env) (P:Program) (w:World) (H:Hp) (s:Shared) (Q:VK) (E:XK) (r:Result) (s':Shared):Prop :=
 match r with
 | .ok (.ret u)=>CE outer P w H s Q u s'
 | .ok _=>False
 | .error e=>CX outer H s E e s'
structure FnOk (P:Program) (w:World) (K:Ab) (mg:Str->Option Value) (base:Heap) (CX:CXT) (k:Nat) (f:Addr) (fd:FuncData) (ps:List Str) (sp:Sp):Prop where
 len:∀vs H Q E,sp vs H Q E->vs.length=ps.length
 run:∀(A:Around) (outer:List Env) (s:Shared) (H:Hp) (args:Args) (us:List Value) (vs:List V) (Q:VK) (E:XK),Room k A->Env0 P w K mg base A outer s H->BindsTo s fd args (ps.zip us)->Vals vs us->sp vs H Q E->
   codeAny (model P w) A (.call (.ref f) args) (CR CX outer P w H s Q E) s
theorem FnOk.mono {P:Program}{w:World}{K:Ab}{mg:Str->Option Value}{base:Heap}{CX:CXT}{j k:Nat}{f:Addr}{fd:FuncData}{ps:List Str}{sp:Sp}(F:FnOk P w K mg base CX j f fd ps sp) (h:j<=k) :
   FnOk P w K mg base CX k f fd ps sp:=⟨F.len,fun A outer s H args us vs Q E hr=>F.run A outer s H args us vs Q E (hr.mono h)⟩
theorem Env0.make {P:Program}{w:World}{K:Ab}{mg:Str->Option Value}{base:Heap}{A:Around}{outer:List Env}{s:Shared}{H:Hp}(e:Env0 P w K mg base A outer s H) (C:Addr) (us:List Value) (kw:List (Str×Value)) :
   Env0 P w K mg base (A.under (.builtin "type.__call__" ⟨.ref C::us,kw⟩)) outer s H:=⟨by first|exact e.frames|(simpa [Hx,Code.envs,Hy,pushEnvs] using e.frames),e.mod,e.bs,e.bsz,e.funs,e.frf,e.hok,e.bare⟩
section
variable {X:Cx}{pins:List (Addr×Obj)}{σ:St}{H:Hp}{s s':Shared}
theorem Inv.env0 (I:Inv X pins σ H s):Env0 X.prog X.w X.K X.mg X.base X.A X.stack s H :=
 ⟨I.ok.frames,I.ok.mod,I.bs,Ax I.ok.bsz I.sz,I.stack,I.stkFree,I.hok,I.bare⟩
theorem Inv.after {Q:VK}{u:Value}(I:Inv X pins σ H s) (h:CE X.stack X.prog X.w H s Q u s'):EP X pins σ Q u s':=by
 obtain⟨v,H',os,bare,un,hok,r,q⟩:=h
 obtain⟨hh,g,d,t,os'⟩:=s'
 obtain rfl:os'=s.os:=os
 exact⟨v,H',I.call (h':=hh) (g':=g) (d':=d) (t':=t) (ch:=[]) un hok bare (fun b z=>absurd z (by simp)),r,q⟩
end
noncomputable def a1m (sp:Sp) (dvs:List V) (E:XK) (t:TA):TE:=fun σ H Q=>t σ H fun vs H1=>sp (vs++dvs) H1 Q E
noncomputable def rp (C:Addr) (m:Str) (sp:Sp) (dvs:List V) (E:XK) (ta:TE) (t:TA):TE:=fun σ H Q=>ta σ H fun x H1=>∃a dx fs,x=.ref a/\H1 a=some (.ins C dx fs)/\fs.lookup m=none/\
 t σ H1 fun vs H2=>sp (x::(vs++dvs)) H2 Q E
noncomputable def a7c (C:Addr) (sp:Sp) (dvs:List V) (E:XK) (t:TA):TE:=fun σ H Q=>t σ H fun vs H1=>∀x dx,H1 x=none->H1 dx=none->dx≠x->
 sp (.ref x::(vs++dvs)) (upd (upd H1 dx (.own x)) x (.ins C dx [])) (fun v H2=>v=.non/\Q (.ref x) H2) E
noncomputable def Binds (K:Ab) (fd:FuncData) (ps:List Str) (ds:List Value):Prop :=
 ∀(s:Shared) (us:List Value),K.In s.heap->(us++ds).length=ps.length->BindsTo s fd ⟨us,[]⟩ (ps.zip (us++ds))
theorem Binds.all {K:Ab}{fd:FuncData}{ps:List Str}(h:∀us:List Value,us.length=ps.length->bindArgs fd ⟨us,[]⟩=pure (ps.zip us)):Binds K fd ps []:=fun s us _ hl=>by
 rw[BZ] at hl |-
 exact .of_eq (h us hl)
noncomputable def fw (CX:CXT) (X:Cx) (E:XK):Prop:=∀(pins:List (Addr×Obj)) (σ:St) (H:Hp) (s:Shared) (e:Value) (s':Shared),Inv X pins σ H s->CX X.stack H s E e s'->X.xe e s'
section
variable {X:Cx}{CX:CXT}{k:Nat}{f C:Addr}{fd:FuncData}{ps:List Str}{sp:Sp}{dvs:List V}{ds:List Value}{E:XK}{x m:Str}{p pos apos:Pos}{e o:Expr}{es:List Expr}{ta:TE}{t:TA}
theorem w9 {pins:List (Addr×Obj)}{σ:St}{H:Hp}{s:Shared}{Q:VK}{us:List Value}{vs:List V}(F:FnOk X.prog X.w X.K X.mg X.base CX k f fd ps sp) (hr:Room k X.A) (hb:Binds X.K fd ps ds) (hd:Vals dvs ds) (hx:fw CX X E)
   (I:Inv X pins σ H s) (r:Vals vs us) (h:sp (vs++dvs) H Q E):wpAny (model X.prog X.w) X.A (call (.ref f) us) (EP X pins σ Q) X.xe s:=by
 have r2:Vals (vs++dvs) (us++ds):=r.append hd
 have hl:(us++ds).length=ps.length:=by rw[<- r2.length];exact F.len _ _ _ _ h
 refine GZ (Dn (F.run X.A X.stack s H ⟨us,[]⟩ (us++ds) (vs++dvs) Q E hr I.env0 (hb s us I.kIn hl) r2 h) fun r s' hq=>?_)
 cases r with
 | error e=>exact hx pins σ H s e s' I hq
 | ok fl =>
   cases fl with
   | ret u=>exact I.after hq
   | next=>exact Cm hq
   | brk=>exact Cm hq
   | cont=>exact Cm hq
theorem a8m (F:FnOk X.prog X.w X.K X.mg X.base CX k f fd ps sp) (hr:Room k X.A) (hg:Gl X x) (hm:X.mg x=some (.ref f)) (hk:Cq X.K (.ref f)=true) (hb:Binds X.K fd ps ds) (hd:Vals dvs ds) (hx:fw CX X E)
   (ha:PA X (e::es) t) (hdb:(x == ("__debug__" : Str))=false:=by decide) (he:starEach (e::es) X.env=(false,eval e X.env)::starEach es X.env:=by rfl) (hpl:(backTo pos (starEach es X.env)).any (·.1)=false:=by rfl) :
   PE X (.Call (.Name x p) (e::es) [] pos) (a1m sp dvs E t):=by
 intro pins s σ H Q I h
 refine Dg (si I hg hm ?_ hdb)
 refine EU (h₀:=X.base) I.ok.mod.kin hk (thn (ha pos pins s σ H _ I h) fun us s1 ⟨vs,H1,I1,r,q⟩=>⟨I1.kIn,?_⟩) he hpl
 exact w9 F hr hb hd hx I1 r q
theorem a8d {pl:Sem Bool}(he:PE X o ta) (c:Cls X.K C) (hm:Meth X.K C m f) (F:FnOk X.prog X.w X.K X.mg X.base CX k f fd ps sp) (hr:Room k X.A) (hb:Binds X.K fd ps ds) (hd:Vals dvs ds) (hx:fw CX X E) (ha:PA X (e::es) t)
   (hst:starEach (e::es) X.env=(false,eval e X.env)::starEach es X.env:=by rfl) (hpl:(backTo pos (starEach es X.env)).any (·.1)=false:=by rfl)
   (ht:eval (.Call (.Attribute o m apos) (e::es) [] pos) X.env=(do
     let ov<-eval o X.env
     standAt apos.atName
     let (f,first)<-holding [ov] (getMethod ov m pl)
     callWith pos f first (backTo pos (starEach (e::es) X.env)) (backToKw pos (keywordEach [] X.env))):=by rfl) :
   PE X (.Call (.Attribute o m apos) (e::es) [] pos) (rp C m sp dvs E ta t):=by
 intro pins s σ H Q I h
 refine Gr (pl:=pl) (thn (he pins s σ H _ I h) fun u s1 ⟨x,H1,I1,rx,a,dx,fs,ex,ea,l,q⟩=>?_) ht
 subst ex
 obtain rfl:u=Value.ref a:=rx
 refine r6 I1 ea c hm l ?_
 refine EU (first:=[.ref a]) (h₀:=X.base) I.ok.mod.kin hm.kp (thn (ha pos pins s1 σ H1 _ I1 q) fun us s2 ⟨vs,H2,I2,r,q2⟩=>⟨I2.kIn,?_⟩) hst hpl
 exact w9 (us:=.ref a::us) (vs:=.ref a::vs) F hr hb hd hx I2 (.cons rfl r) q2
theorem a64 {pl:Sem Bool}(he:PE X o ta) (c:Cls X.K C) (hm:Meth X.K C m f) (F:FnOk X.prog X.w X.K X.mg X.base CX k f fd ps sp) (hr:Room k X.A) (hb:Binds X.K fd ps ds) (hd:Vals dvs ds) (hx:fw CX X E)
   (ht:eval (.Call (.Attribute o m apos) [] [] pos) X.env=(do
     let ov<-eval o X.env
     standAt apos.atName
     let (f,first)<-holding [ov] (getMethod ov m pl)
     callWith pos f first (backTo pos (starEach [] X.env)) (backToKw pos (keywordEach [] X.env))):=by rfl) :
   PE X (.Call (.Attribute o m apos) [] [] pos) (rp C m sp dvs E ta tNil):=by
 intro pins s σ H Q I h
 refine Gr (pl:=pl) (thn (he pins s σ H _ I h) fun u s1 ⟨x,H1,I1,rx,a,dx,fs,ex,ea,l,q⟩=>?_) ht
 subst ex
 obtain rfl:u=Value.ref a:=rx
 refine r6 I1 ea c hm l ?_
 exact PySem.W.callWith_K0 (first:=[.ref a]) I1.kIn hm.kp (w9 (us:=[.ref a]) (vs:=[.ref a]) F hr hb hd hx I1 (.cons rfl .nil) q)
structure Mk (K:Ab) (C f:Addr):Prop where
 makes:Es K C=true
 init:Ay K (.ref C) "__init__" = some (some (.ref f))
 fn:Bp K (.ref f)=true
 kp:Cq K (.ref C)=true
theorem a6f {pins:List (Addr×Obj)}{σ:St}{H:Hp}{s:Shared}{Q:VK}{us:List Value}{vs:List V}(M:Mk X.K C f) (F:FnOk X.prog X.w X.K X.mg X.base CX k f fd ps sp) (hr:Room (k+1) X.A) (hb:Binds X.K fd ps ds) (hd:Vals dvs ds)
   (hx:fw CX X E) (I:Inv X pins σ H s) (r:Vals vs us)
   (h:∀x dx,H x=none->H dx=none->dx≠x->sp (.ref x::(vs++dvs)) (upd (upd H dx (.own x)) x (.ins C dx [])) (fun v H2=>v=.non/\Q (.ref x) H2) E) :
   wpAny (model X.prog X.w) X.A (call (.ref C) us) (EP X pins σ Q) X.xe s:=by
 have hq:=h (s.heap.objs.size+1) s.heap.objs.size (I.hok.fresh (CD _)) (I.hok.fresh (Ah _)) (Az (Cb _))
 have I2:=Inv.made (C:=C) I
 have r2:Vals (V.ref (s.heap.objs.size+1)::(vs++dvs)) (Value.ref (s.heap.objs.size+1)::(us++ds)):=.cons rfl (r.append hd)
 have hl:(Value.ref (s.heap.objs.size+1)::us++ds).length=ps.length:=by
   have e:=r2.length
   rw[F.len _ _ _ _ hq] at e
   exact e.symm
 refine GZ (a5s (f:=f) I.kIn M.makes M.init (beq_iff_eq.mp M.fn) (Dn (F.run _ X.stack _ _ ⟨Value.ref (s.heap.objs.size+1)::us,[]⟩ (Value.ref (s.heap.objs.size+1)::(us++ds)) _ _ E (hr.make C us [])
   (I2.env0.make C us []) (hb _ (Value.ref (s.heap.objs.size+1)::us) I2.kIn hl) r2 hq) fun r s' hq'=>?_))
 cases r with
 | error e=>exact hx pins σ _ _ e s' I2 hq'
 | ok fl =>
   cases fl with
   | ret u =>
     obtain⟨v,H',I3,rv,ev,q3⟩:=I2.after hq'
     subst ev
     exact⟨rv,⟨V.ref (s.heap.objs.size+1),H',I3,rfl,q3⟩⟩
   | next=>exact Cm hq'
   | brk=>exact Cm hq'
   | cont=>exact Cm hq'
theorem a8h (M:Mk X.K C f) (F:FnOk X.prog X.w X.K X.mg X.base CX k f fd ps sp) (hr:Room (k+1) X.A) (hg:Gl X x) (hm:X.mg x=some (.ref C)) (hb:Binds X.K fd ps ds) (hd:Vals dvs ds) (hx:fw CX X E)
   (ha:PA X (e::es) t) (hdb:(x == ("__debug__" : Str))=false:=by decide) (he:starEach (e::es) X.env=(false,eval e X.env)::starEach es X.env:=by rfl) (hpl:(backTo pos (starEach es X.env)).any (·.1)=false:=by rfl) :
   PE X (.Call (.Name x p) (e::es) [] pos) (a7c C sp dvs E t):=by
 intro pins s σ H Q I h
 refine Dg (si I hg hm ?_ hdb)
 refine EU (h₀:=X.base) I.ok.mod.kin M.kp (thn (ha pos pins s σ H _ I h) fun us s1 ⟨vs,H1,I1,r,q⟩=>⟨I1.kIn,?_⟩) he hpl
 exact a6f M F hr hb hd hx I1 r q
end
noncomputable def PK (X:Cx) (kws:List Keyword) (t:TA):Prop :=
 ∀(pos:Pos) (pins:List (Addr×Obj)) (s:Shared) (σ:St) (H:Hp) (Q:List V->Hp->Prop),Inv X pins σ H s->t σ H Q->wpAny (model X.prog X.w) X.A (evalAll ((backToKw pos (keywordEach kws X.env)).map (·.2))) (AP X pins σ Q) X.xe s
section
variable {X:Cx}{CX:CXT}{k:Nat}{f C:Addr}{fd:FuncData}{ps ks:List Str}{sp:Sp}{E:XK}{x m:Str}{p pos apos kpos:Pos}{e o:Expr}{es:List Expr}{kws:List Keyword}{te ta:TE}{t tk:TA}{nm:Option Str}
theorem a99:PK X [] tNil:=fun _ _ _ _ H Q I h=>wpAny_evalAll_nil ⟨[],H,I,.nil,h⟩
theorem a8s (ha:PE X e te) (hr:PK X kws t):PK X (⟨nm,e,kpos⟩::kws) (br te t):=by
 intro pos pins s σ H Q I h
 show wpAny _ _ (evalAll ((do let v<-eval e X.env;standAt pos;pure v)::(backToKw pos (keywordEach kws X.env)).map (·.2))) _ _ s
 refine wpAny_evalAll_cons (Aa (thn (ha pins s σ H _ I h) fun u s1 ⟨x,H1,I1,r1,q1⟩=>Aa (EZ (Ae ?_))))
 exact thn (hr pos pins s1 σ H1 _ I1 q1) fun us s2 ⟨xs,H2,I2,r2,q2⟩=>⟨x::xs,H2,I2,.cons r1 r2,q2⟩
variable {g:List Value->List Value->List Value}{gV:List V->List V->List V}
end
structure FnScope (N P:List Str) (sc:Scope):Prop where
 kind:sc.kind=.function
 co:sc.isCoroutine=false
 gen:sc.isGenerator=false
 nd:N.Nodup
 pre:N.take P.length=P
 par:∀x∈P,sc.names.lookup x=some .local\/sc.names.lookup x=some .cell
 nofree:∀y∈sc.names,y.2≠.free
theorem uh {kindOf:Str->Option NameKind}{x:Str}:∀{binds:List (Str×Value)}{m:Str->Option Value},(∀v,(x,v)∉binds)->bindL kindOf binds m x=m x
 | [],_,_=>rfl
 | (n,v)::r,m,h=>by
   unfold bindL
   rw[uh fun w hw=>h w (Ao _ hw)]
   split
   . have:x≠n:=by rintro rfl;exact h v Aj
     simp[this]
   . rfl
theorem uc {kindOf:Str->Option NameKind}{x:Str}:∀{binds:List (Str×Value)}{m:Str->Option Value},(∀v,(x,v)∉binds)->bindC kindOf binds m x=m x
 | [],_,_=>rfl
 | (n,v)::r,m,h=>by
   unfold bindC
   rw[uc fun w hw=>h w (Ao _ hw)]
   split
   . rfl
   . have:x≠n:=by rintro rfl;exact h v Aj
     simp[this]
theorem ue {kindOf:Str->Option NameKind}{x:Str}{v:Value}:∀{P:List Str}{vs:List Value}{i:Nat}{m:Str->Option Value},P.Nodup->P[i]? = some x->vs[i]? = some v->kindOf x=some .local->
   bindL kindOf (P.zip vs) m x=some v
 | [],_,_,_,_,h,_,_=>by simp at h
 | _::_,[],_,_,_,_,h,_=>by simp at h
 | p::P,w::vs,0,m,nd,h1,h2,hk=>by
   simp at h1 h2;subst h1;subst h2
   show bindL kindOf ((p,w)::P.zip vs) m p=_
   unfold bindL
   rw[uh fun v hv=>(Bb.mp nd).1 (Eu hv).1,if_pos hk]
   simp
 | p::P,w::vs,i+1,m,nd,h1,h2,hk=>by
   show bindL kindOf ((p,w)::P.zip vs) m x=_
   unfold bindL
   exact ue (i:=i) (Bb.mp nd).2 (by simpa using h1) (by simpa using h2) hk
theorem um {kindOf:Str->Option NameKind}{x:Str}{v:Value}:∀{P:List Str}{vs:List Value}{i:Nat}{m:Str->Option Value},P.Nodup->P[i]? = some x->vs[i]? = some v->kindOf x≠some .local->
   bindC kindOf (P.zip vs) m x=some v
 | [],_,_,_,_,h,_,_=>by simp at h
 | _::_,[],_,_,_,_,h,_=>by simp at h
 | p::P,w::vs,0,m,nd,h1,h2,hk=>by
   simp at h1 h2;subst h1;subst h2
   show bindC kindOf ((p,w)::P.zip vs) m p=_
   unfold bindC
   rw[uc fun v hv=>(Bb.mp nd).1 (Eu hv).1,if_neg hk]
   simp
 | p::P,w::vs,i+1,m,nd,h1,h2,hk=>by
   show bindC kindOf ((p,w)::P.zip vs) m x=_
   unfold bindC
   exact um (i:=i) (Bb.mp nd).2 (by simpa using h1) (by simpa using h2) hk
noncomputable def start (N:List Str) (vs:List V):St:=vs.map some++IA (N.length - vs.length) none
noncomputable def cxOf (CX:CXT) (P:Program) (w:World) (K:Ab) (mg:Str->Option Value) (base:Heap) (N:List Str) (qual:Str) (scope:Scope) (f:Addr) (cd:Value) (A:Around) (outer:List Env) (s:Shared) (H:Hp) (E:XK):Cx where
 prog:=P
 w:=w
 K:=K
 mg:=mg
 base:=base
 A:=A.deeper (envOfC qual scope s.heap.objs.size f cd)
 N:=N
 s₀:=s
 H₀:=H
 env:=envOfC qual scope s.heap.objs.size f cd
 outer:=outer
 stack:=envOfC qual scope s.heap.objs.size f cd::outer
 ex:=[]
 calm:=true
 fn:=fun _=>true
 pn:=[]
 xe:=fun e s'=>wpAny (model P w) (A.deeper (envOfC qual scope s.heap.objs.size f cd)) (leaving (envOfC qual scope s.heap.objs.size f cd) e) (fun _ s''=>CX outer H s E e s'') (fun e' s''=>CX outer H s E e' s'') s'
theorem xp {sc:Scope}{n:Nat}{x:Str}(h:sc.names.lookup x=some .cell):∃c,(cellsFrom n sc.names []).lookup x=some c:=by
 have q:=Ge sc.names n [] (.inl h)
 exact Option.isSome_iff_exists.mp q
theorem a1p {CX:CXT}{P:Program}{w:World}{K:Ab}{mg:Str->Option Value}{base:Heap}{N ps:List Str}{qual:Str}{scope:Scope}{f:Addr}{cd:Value}{A:Around}{outer:List Env}{s s1:Shared}{H:Hp}{E:XK}{us:List Value}{vs:List V}
   (S:FnScope N ps scope) (hd:A.handled=none) (e0:Env0 P w K mg base A outer s H) (hl:vs.length=ps.length) (r:Vals vs us)
   (x:InCallC s s.heap.objs.size (bindL (envOfC qual scope s.heap.objs.size f cd).kindOf (ps.zip us) fun _=>none) (cellsFrom (s.heap.objs.size+1) scope.names []) (bindC (envOfC qual scope s.heap.objs.size f cd).kindOf (ps.zip us) fun _=>none) s1) :
   Inv (cxOf CX P w K mg base N qual scope f cd A outer s H E) [] (start N vs) H s1:=by
 have hpl:ps.length<=N.length:=by have:=congrArg IX S.pre;rw[AS] at this;omega
 obtain⟨h1,tk,rfl,hk⟩:=x.done
 have noA:∀b:Addr,b∉(cxOf CX P w K mg base N qual scope f cd A outer s H E).ex:=fun b z=>absurd (show b∈([]:List Addr) from z) (by simp)
 refine⟨⟨e0.mod,S.kind,rfl,rfl,Ah _,fun y z c h1 h2=>?_,fun y hy=>?_,fun y c _ h=>?_,fun _=>hd,Around.frames_deeper e0.frames,.inr ⟨rfl,rfl⟩,fun b z=>absurd z (noA b),e0.bs,e0.bsz,fun b _ _=>noA b,fun b z=>absurd z (noA b),e0.funs,e0.frf⟩,
   rfl,e0.bare,Un.kept hk,⟨_,x.toInCall.ns,fun i y v h1 h2 h3=>?_⟩,fun y c h=>⟨_,x.cell y c h⟩,e0.hok.fresh (Ah _),fun y c h=>?_,fun p hp=>absurd (show p∈([]:List (Addr×Obj)) from hp) (by simp),e0.hok.kept hk,?_⟩
 . exact name_of_addr x.apart (BG h1) (BG h2)
 . have hy:scope.names.lookup y=some .cell\/scope.names.lookup y=some .free:=hy
   rcases hy with hy|hy
   . exact xp hy
   . exact absurd rfl (S.nofree _ (BG hy))
 . exact BV (x.above y c (BG h))
 . have hi:i<vs.length:=by
     unfold start at h2
     by_cases hi:i<vs.length
     . exact hi
     . rw[List.getElem?_append_right (by simpa using hi)] at h2
       rw[List.getElem?_replicate] at h2
       split at h2<;>cases h2
   have ha:vs[i]? = some v:=by
     unfold start at h2
     rw[List.getElem?_append_left (by simpa using hi),Ak] at h2
     cases e:vs[i]? with
     | none=>rw[e] at h2;cases h2
     | some a=>rw[e] at h2;cases h2;rfl
   obtain⟨u,hu,rv⟩:=r.get ha
   have hp:ps[i]? = some y:=by
     rw[<- S.pre,CZ (by omega)];exact h1
   have ndP:ps.Nodup:=by rw[<- S.pre];exact S.nd.sublist (HL _ _)
   refine⟨u,rv,?_⟩
   rcases S.par y (AQ hp) with k|k
   . exact .inl ⟨k,ue ndP hp hu k⟩
   . obtain⟨c,e⟩:=xp (n:=s.heap.objs.size+1) k
     refine .inr ⟨.inl k,c,e,?_⟩
     have q:=x.cell y c e
     rw[um ndP hp hu (by show scope.names.lookup y≠_;rw[k];decide)] at q
     exact q
 . exact e0.hok.fresh (BV (x.above y c (BG h)))
 . unfold start
   show _=N.length
   rw[Ag,Ac,Do]
   omega
theorem aas {CX:CXT}{P:Program}{w:World}{K:Ab}{mg:Str->Option Value}{base:Heap}{k:Nat}{f:Addr}{name qual:Str}{params:Arguments}{body:List Stmt}{scope:Scope}{dV kV doc pm cdv ct oc:Value}{an od:Option Addr}
   {osl:Array (Option Value)} {N ps:List Str} {sp:Sp} (lk:K.lookup f=some ⟨oc,od,.func (Dq name qual params body scope dV kV doc pm an cdv ct),osl⟩) (hcd:Gs K cdv qual=true) (S:FnScope N ps scope)
   (len:∀vs H Q E,sp vs H Q E->vs.length=ps.length)
   (hbody:∀(A:Around) (outer:List Env) (s:Shared) (H:Hp) (vs:List V) (Q:VK) (E:XK),Room k (A.deeper (envOfC qual scope s.heap.objs.size f cdv))->sp vs H Q E->
     ∃t,PSs (cxOf CX P w K mg base N qual scope f cdv A outer s H E) body t/\t { nx:=fun _ H'=>Q .non H',rt:=Q } (start N vs) H) :
   FnOk P w K mg base CX (k+1) f (Dq name qual params body scope dV kV doc pm an cdv ct) ps sp:=by
 refine⟨len,fun A outer s H args us vs Q E hr e0 hb r hsp=>?_⟩
 have hl:=len _ _ _ _ hsp
 have KX:K.In s.heap:=e0.mod.kin.keeps fun b o e=>(e0.bs b o e).1
 have lim:s.heap.NoLimit:=e0.mod.nolimit.keeps fun b o e=>(e0.bs b o e).1
 have hkind:∀y∈ps.zip us,scope.names.lookup y.1=some .local\/(scope.names.lookup y.1=some .cell/\((cellsFrom (s.heap.objs.size+1) scope.names []).lookup y.1).isSome=true):=fun⟨n,v⟩ hy=>by
   rcases S.par n (Eu hy).1 with q|q
   . exact .inl q
   . exact .inr ⟨q,Ge _ _ _ (.inl q)⟩
 refine codeAny_call_function hr.depth (KX _ _ lk) rfl S.co S.gen rfl (PySem.W.codeRec_of KX hcd) (hb _ _ _ _ ?_)
 refine wpAny_newFunctionEnv_cells S.kind hkind fun env he s1 x=>?_
 subst he
 refine⟨lim.keeps x.toInCall.keep,codeAny_func ?_⟩
 obtain⟨t,ht,hq⟩:=hbody A outer s H vs Q E (hr.deeper _) hsp
 have I:Inv (cxOf CX P w K mg base N qual scope f cdv A outer s H E) [] (start N vs) H s1:=a1p S hr.hd e0 hl r x
 refine BR (ht [] s1 (start N vs) H _ I hq) (fun fl s' hs=>?_) fun e s' hs=>hs
 have fin:∀{σ':St} {H':Hp} {v:V} {u:Value},Inv (cxOf CX P w K mg base N qual scope f cdv A outer s H E) [] σ' H' s'->RelV v u->Q v H'->CE outer P w H s Q u s' :=
   fun {σ' H' v u} J rv q=>⟨v,H',J.os,J.bare,J.base,J.hok,rv,q⟩
 cases fl with
 | ret u =>
   obtain⟨v,σ',H',J,rv,q⟩:=hs
   exact fin J rv q
 | next =>
   obtain⟨σ',H',J,q⟩:=hs
   exact fin (v:=V.non) (u:=Value.none) J rfl q
 | brk =>
   obtain⟨_,_,_,q⟩:=hs
   exact Cm q
 | cont =>
   obtain⟨_,_,_,q⟩:=hs
   exact Cm q
section
variable {X:Cx}{x:Str}{p pos:Pos}{e:Expr}{es:List Expr}{t:TA}{id T:String}{r:List V->Hp->VK->Prop}
noncomputable def tCB (r:List V->Hp->VK->Prop) (t:TA):TE:=fun σ H Q=>t σ H fun vs H1=>r vs H1 Q
theorem kh (hc:cy X (.builtin id) r) (hg:Gl X x) (hm:X.mg x=none) (hv:bootBuiltins x=some (.builtin id)) (ha:PA X (e::es) t) (hn:x ≠ "__name__" := by decide) (hdb:(x == ("__debug__" : Str))=false:=by decide)
   (he:starEach (e::es) X.env=(false,eval e X.env)::starEach es X.env:=by rfl) (hpl:(backTo pos (starEach es X.env)).any (·.1)=false:=by rfl):PE X (.Call (.Name x p) (e::es) [] pos) (tCB r t):=by
 intro pins s σ H Q I h
 refine Dg (ii I hg hm hv ?_ hn hdb)
 exact PyProof.Rows.callWith_builtin1 (thn (ha pos pins s σ H _ I h) fun us s1 ⟨vs,H1,I1,r1,q1⟩=>hc pins s1 σ H1 vs us Q I1 r1 q1) he hpl
theorem ul (hc:cy X (.type T) r) (hg:Gl X x) (hm:X.mg x=none) (hv:bootBuiltins x=some (.type T)) (ha:PA X (e::es) t) (hn:x ≠ "__name__" := by decide) (hdb:(x == ("__debug__" : Str))=false:=by decide)
   (he:starEach (e::es) X.env=(false,eval e X.env)::starEach es X.env:=by rfl) (hpl:(backTo pos (starEach es X.env)).any (·.1)=false:=by rfl):PE X (.Call (.Name x p) (e::es) [] pos) (tCB r t):=by
 intro pins s σ H Q I h
 refine Dg (ii I hg hm hv ?_ hn hdb)
 exact Cg (thn (ha pos pins s σ H _ I h) fun us s1 ⟨vs,H1,I1,r1,q1⟩=>hc pins s1 σ H1 vs us Q I1 r1 q1) he hpl
end
end L2
namespace HT
open PySem PyProof.Rows
section
open PySem.SeqAt
open PySem.AutoSeq1 (wpAny_loadPart')
open PySem.MeetsSeq PySem.MeetsSeq2 PySem.MeetsSeq3
end
section
variable {prog:Program}{w:World}{A:Around}{E:Value->Shared->Prop}{s:Shared}
theorem cat_tup {t b:Addr}{vs ws:List Value}{Q:Value->Shared->Prop}(ht:IsTup s.heap t vs.toArray) (hb:IsTup s.heap b ws.toArray) (hv:vs≠[])
   (h1:ws=[]->Q (.ref t) s) (h2:ws≠[]->Q (.ref s.heap.objs.size) { s with heap:=s.heap.push { cls:=.type "tuple",data:=.seq (vs++ws).toArray } })
   (hsz:vs.length+ws.length<=sizeLine):wpAny (model prog w) A (binaryOp .Add (.ref t) (.ref b)) Q E s:=by
 obtain⟨⟨cls,dd,data,sl⟩,ho,hc,n,hd⟩:=id ht
 obtain⟨⟨cls2,dd2,data2,sl2⟩,ho2,hc2,n2,hd2⟩:=id hb
 simp only at hc hd hc2 hd2
 subst hc hd hc2 hd2
 have e:vs.toArray++ws.toArray=(vs++ws).toArray:=by simp
 by_cases hw:ws=[]
 . exact Hz ⟨_,ho,rfl⟩ ⟨_,ho2,rfl⟩ Fv Hi Ec DU (DJ _ _)
     (tuple_addW1 t b vs.toArray ws.toArray n n2 dd dd2 sl sl2 (by simpa using hv) (by simp[hw])) ⟨ho,ho2,h1 hw⟩
 . refine Hz ⟨_,ho,rfl⟩ ⟨_,ho2,rfl⟩ Fv Hi Ec DU (DJ _ _)
     (tuple_addW2 t b vs.toArray ws.toArray n n2 dd dd2 sl sl2 (by simpa using hv) (by simpa using hw) (by rw[Ar,Ar];exact hsz)) ⟨ho,ho2,?_⟩
   rw[e]
   exact h2 hw
noncomputable def sIx (n d:Nat):Option Int->Nat
 | none=>d
 | some v=>if v<0 then (v+(n:Int)).toNat else min v.toNat n
theorem sIx_none (n d:Nat):sIx n d none=d:=rfl
theorem sIx_nat (n d k:Nat):sIx n d (some (k:Int))=min k n:=by
 show (if (k:Int)<0 then ((k:Int)+(n:Int)).toNat else min (k:Int).toNat n)=min k n
 rw[if_neg (by omega),By]
theorem qy (n d:Nat) (hd:d<=n) (o:Option Int):sIx n d o<=n:=by
 cases o with
 | none=>exact hd
 | some v =>
   show (if v<0 then (v+(n:Int)).toNat else min v.toNat n)<=n
   by_cases hv:v<0
   . rw[if_pos hv];omega
   . rw[if_neg hv];exact Nat.min_le_right _ _
theorem zw (v:Int) (n d:Nat):(if v<0 then max (v+(n:Int)) 0 else min v (n:Int))=((sIx n d (some v):Nat):Int):=by
 show (if v<0 then max (v+(n:Int)) 0 else min v (n:Int))=(((if v<0 then (v+(n:Int)).toNat else min v.toNat n):Nat):Int)
 by_cases hv:v<0
 . simp only[if_pos hv];omega
 . simp only[if_neg hv];omega
theorem a1g (lo hi:Option Int) (n:Nat):Dz lo hi 1 (n:Int)=(((sIx n 0 lo:Nat):Int),((sIx n n hi:Nat):Int)):=by
 have h1:¬ ((1:Int)<0):=by omega
 unfold Dz
 simp only[h1,if_false]
 refine Prod.ext ?_ ?_
 . cases lo with
   | none=>rfl
   | some v=>exact zw v n 0
 . cases hi with
   | none=>rfl
   | some v=>exact zw v n n
theorem a1l (i j:Nat):CT (i:Int) (j:Int) 1=j - i:=by
 unfold CT
 have h1:(1:Int)>0:=by omega
 simp only[h1,if_true,Int.ediv_one]
 split<;>omega
theorem rq {v:Value}{o:Option Int}{Q:Option Int->Shared->Prop}(p:IsPart v o) (h:Q o s):wpAny (model prog w) A (Builtin.Slice.slicePartIndex v) Q E s:=by
 cases p with
 | none=>exact slicePart_none h
 | int i t=>exact slicePart_int h
theorem iz {sl:Addr}{vl vu:Value}{lo hi:Option Int}{n:Nat}{Q:Int×Int×Nat->Shared->Prop}(hs:s.heap.IsSliceOf sl vl vu .none) (pl:IsPart vl lo) (pu:IsPart vu hi)
   (h:Q (((sIx n 0 lo:Nat):Int),1,sIx n n hi - sIx n 0 lo) s):wpAny (model prog w) A (Fc (.ref sl) (pure (n:Int))) Q E s:=by
 obtain⟨os,hos,hcs,hds⟩:=id hs
 unfold Fc Builtin.Slice.sliceFields
 refine Aa (Aa (BO hos hds (x:=vl) rfl (Aa (BO hos hds (x:=vu) rfl (Aa (BO hos hds (x:=.none) rfl (Ae ?_)))))))
 refine Aa (slicePart_none ?_)
 show wpAny _ _ (if ((1:Int) == 0)=true then _ else _) _ _ s
 rw[if_neg (by decide)]
 refine Aa (rq pl (Aa (rq pu (Aa (Ae ?_)))))
 show wpAny _ _ (match Dz lo hi 1 (n:Int) with|(lo,hi)=>pure (lo,(1:Int),CT lo hi 1)) _ _ s
 rw[a1g lo hi n]
 show wpAny _ _ (pure (((sIx n 0 lo:Nat):Int),(1:Int),CT ((sIx n 0 lo:Nat):Int) ((sIx n n hi:Nat):Int) 1)) _ _ s
 rw[a1l]
 exact Ae h
theorem a5c (xs:Array Value) (i k:Nat):((Du k).filterMap fun (m:Nat)=>xs[((i:Int)+(m:Int)*1).toNat]?).toArray=((xs.toList.drop i).take k).toArray:=by
 have e:(fun (m:Nat)=>xs[((i:Int)+(m:Int)*1).toNat]?)=fun m=>xs[i+m]?:=by
   funext m
   have:((i:Int)+(m:Int)*1).toNat=i+m:=by omega
   rw[this]
 rw[e]
 have:=pick_run xs i k
 rw[HA] at this
 have e2:((fun x=>xs[x]?)∘fun x=>i+x)=fun m=>xs[i+m]?:=rfl
 rw[e2] at this
 rw[this]
theorem getItem_tuple_cut {t sl:Addr}{items:Array Value}{vl vu:Value}{lo hi:Option Int}{Q:Value->Shared->Prop}(ht:IsTup s.heap t items) (hs:s.heap.IsSliceOf sl vl vu .none) (pl:IsPart vl lo) (pu:IsPart vu hi)
   (hw:¬ (sIx items.size 0 lo=0/\sIx items.size items.size hi=items.size))
   (h:Q (.ref s.heap.objs.size) { s with heap:=s.heap.push { cls:=.type "tuple",data:=.seq ((items.toList.drop (sIx items.size 0 lo)).take (sIx items.size items.size hi - sIx items.size 0 lo)).toArray } })
   (hsz:items.size<=sizeLine):wpAny (model prog w) A (getItem (.ref t) (.ref sl)) Q E s:=by
 have htake:sizeOk (.seq ((items.toList.drop (sIx items.size 0 lo)).take (sIx items.size items.size hi - sIx items.size 0 lo)).toArray):=by
   show ((items.toList.drop (sIx items.size 0 lo)).take (sIx items.size items.size hi - sIx items.size 0 lo)).toArray.size<=sizeLine
   rw[Ar,AS,Ba,AU]
   omega
 have hj:sIx items.size items.size hi<=items.size:=qy _ _ (Ah _) hi
 obtain⟨os,hos,hcs,hds⟩:=id hs
 have hTs:s.TypeIs (.ref sl) "slice" := ⟨os,hos,hcs⟩
 unfold getItem
 try with_reducible refine AZ ?_
 first|refine Aa (Ae ?_)|skip
 refine Aa (HM ht.typeIs (by decide) ?_)
 refine Aa (Bn (name:=Bq "__getitem__") ht.typeIs Bz
   (Bm Bz ht.typeIs entry_tuple_getitem ?_ (args_tuple_getitem _ _)))
 show wpAny _ _ (Fd (.ref t) >>= _) _ _ s
 refine Aa (tupleItemsOf_ ht ?_)
 refine Aa (Dr hTs ?_)
 rw[if_pos (by decide)]
 refine Aa (iz hs pl pu ?_)
 have hno:¬ ((((sIx items.size 0 lo:Nat):Int) == 0 && (1:Int) == 1 && (sIx items.size items.size hi - sIx items.size 0 lo) == items.size)=true):=by
   intro q
   rw[Cc,Cc] at q
   have q1:((sIx items.size 0 lo:Nat):Int)=0:=eq_of_beq q.1.1
   have q2:sIx items.size items.size hi - sIx items.size 0 lo=items.size:=eq_of_beq q.2
   exact hw ⟨by omega,by omega⟩
 show wpAny _ _ (if (((sIx items.size 0 lo:Nat):Int) == 0 && (1:Int) == 1 && (sIx items.size items.size hi - sIx items.size 0 lo) == items.size)=true then _ else _) _ _ s
 rw[if_neg hno,a5c]
 first
   | exact Aa (m:=Da _) (AL (Ae ⟨_,rfl,Ae h⟩) htake)
   | exact Aa (m:=Da _) (AL (Aa (Ae (Ae ⟨_,rfl,Ae h⟩))) htake)
   | exact Aa (Aa (m:=Da _) (AL (Ae (Ae ⟨_,rfl,Ae h⟩)) htake))
   | exact Aa (Aa (m:=Da _) (AL (Ae ⟨_,rfl,Ae h⟩) htake))
end
end HT
namespace L2
open PySem PySem.Spec PyProof.Rows
abbrev TO:=St->Hp->(Option Int->Hp->Prop)->Prop
noncomputable def PO (X:Cx) (e:Option Expr) (t:TO):Prop :=
 ∀(pins:List (Addr×Obj)) (s:Shared) (σ:St) (H:Hp) (Q:Option Int->Hp->Prop),Inv X pins σ H s->t σ H Q->
   wpAny (model X.prog X.w) X.A (evalPart e X.env) (fun u s'=>∃o H',Inv X pins σ H' s'/\IsPart u o/\Q o H') X.xe s
noncomputable def yz:TO:=fun _ H Q=>Q none H
noncomputable def a6w (t:TE):TO:=fun σ H Q=>t σ H fun x H1=>∃i,x=.int i/\Q (some i) H1
section
variable {X:Cx}{e:Expr}{te:TE}{lo hi:Option Expr}{tl th:TO}{pos p2:Pos}
theorem zf:PO X none yz:=by
 intro pins s σ H Q I h
 rw[evalPart_none]
 exact Ae ⟨none,H,I,.none,h⟩
theorem a02 (h:PE X e te):PO X (some e) (a6w te):=by
 intro pins s σ H Q I hw
 rw[evalPart_some]
 refine thn (h pins s σ H _ I hw) fun u s1 ⟨x,H1,I1,r1,q1⟩=>?_
 obtain⟨i,rfl,q⟩:=q1
 obtain⟨t,rfl⟩:=r1
 exact⟨some i,H1,I1,.int i t,q⟩
noncomputable def SlR (X:Cx) (r:V->Option Int->Option Int->Hp->VK->Prop):Prop :=
 ∀(pins:List (Addr×Obj)) (s:Shared) (σ:St) (H:Hp) (x:V) (v vl vu:Value) (lo hi:Option Int) (sl:Addr) (Q:VK),Inv X pins σ H s->RelV x v->s.heap.IsSliceOf sl vl vu .none->IsPart vl lo->IsPart vu hi->r x lo hi H Q->
   ∃T id,typeLookup (.type T) "__getitem__" = pure (some (.builtin id))/\s.TypeIs v T/\wpAny (model X.prog X.w) X.A (getItem v (.ref sl)) (EP X pins σ Q) X.xe s
noncomputable def tSl (r:V->Option Int->Option Int->Hp->VK->Prop) (te:TE) (tl th:TO):TE:=fun σ H Q=>te σ H fun x H1=>tl σ H1 fun l H2=>th σ H2 fun u H3=>r x l u H3 Q
theorem wq {r:V->Option Int->Option Int->Hp->VK->Prop}(hr:SlR X r) (he:PE X e te) (hl:PO X lo tl) (hu:PO X hi th):PE X (.Subscript e (.Slice lo hi none p2) pos) (tSl r te tl th):=by
 intro pins s σ H Q I h
 refine Subscript_ (thn (he pins s σ H _ I h) fun v s1 ⟨x,H1,I1,r1,q1⟩=>?_)
 refine wpAny_Slice (thn (hl pins s1 σ H1 _ I1 q1) fun vl s2 ⟨l,H2,I2,pl,q2⟩=>thn (hu pins s2 σ H2 _ I2 q2) fun vu s3 ⟨u,H3,I3,pu,q3⟩=>?_)
 rw[evalPart_none]
 refine Ae ?_
 have I4:Inv X pins σ H3 { s3 with heap:=s3.heap.push { cls:=.type "slice",data:=.fields #[vl,vu,.none] } }:=I3.kept (t':=s3.toks) fun b ob q=>Ad _ q
 obtain⟨T,id,hT,ht,hg⟩:=hr pins { s3 with heap:=s3.heap.push { cls:=.type "slice",data:=.fields #[vl,vu,.none] } } σ H3 x v vl vu l u s3.heap.objs.size Q I4 r1 (Heap.IsSliceOf.new ..) pl pu q3
 show wpAny (model X.prog X.w) X.A (subscriptTail e (.Slice lo hi none p2) v (.ref s3.heap.objs.size)) (EP X pins σ Q) X.xe { s3 with heap:=s3.heap.push { cls:=.type "slice",data:=.fields #[vl,vu,.none] } }
 exact tail_any (ops:=[.ref s3.heap.objs.size,v]) ht hT hg (by with_unfolding_all rfl)
noncomputable def cutV (xs:List V) (lo hi:Option Int):List V:=(xs.drop (HT.sIx xs.length 0 lo)).take (HT.sIx xs.length xs.length hi - HT.sIx xs.length 0 lo)
theorem ou (xs:List V) (lo hi:Option Int):(cutV xs lo hi).length<=xs.length:=by
 unfold cutV
 rw[AS,Ba]
 omega
noncomputable def rSlT (K:Ab):V->Option Int->Option Int->Hp->VK->Prop:=fun x lo hi H Q=>∃a xs,x=.ref a/\SqT K H a xs/\
 ¬ (HT.sIx xs.length 0 lo=0/\HT.sIx xs.length xs.length hi=xs.length)/\∀p,H p=none->Q (.ref p) (upd H p (.tup (cutV xs lo hi)))
theorem r9:SlR X (rSlT X.K):=by
 intro pins s σ H x v vl vu lo hi sl Q I rx hs pl pu h
 obtain⟨a,xs,rfl,hx,hw,q⟩:=h
 cases rx
 obtain⟨its,r,ht,hz⟩:=I.tuple hx
 have hlen:its.toArray.size=xs.length:=by rw[Ar];exact r.length.symm
 refine⟨"tuple",_,Bz.lookup,ht.typeIs,?_⟩
 refine HT.getItem_tuple_cut ht hs pl pu (by rw[hlen];exact hw) ?_ (by rw[hlen];exact hz)
 rw[hlen]
 refine⟨.ref s.heap.objs.size,_,I.laid (t':=s.toks) (o:=.tup (cutV xs lo hi)) (fun b ob q=>Ad _ q) (Ah _) ?_,rfl,q _ (I.hok.fresh (Ah _))⟩
 exact⟨Ax (ou xs lo hi) hz,_,(r.drop (HT.sIx xs.length 0 lo)).take (HT.sIx xs.length xs.length hi - HT.sIx xs.length 0 lo),IsTup.new _ _⟩
noncomputable def aaj (K:Ab):R2:=fun x y H Q=>∃a b xs ys,x=.ref a/\y=.ref b/\SqT K H a xs/\SqT K H b ys/\xs≠[]/\xs.length+ys.length<=sizeLine/\
 (ys=[]->Q (.ref a) H)/\(ys≠[]->∀p,H p=none->Q (.ref p) (upd H p (.tup (xs++ys))))
theorem Vals.nil_iff {xs:List V}{us:List Value}(r:Vals xs us):us=[]↔xs=[]:=by
 cases r with
 | nil=>simp
 | cons _ _=>simp
theorem oa:OpR X (binaryOp .Add) (aaj X.K):=by
 intro pins s σ H x y v u Q I rx ry h
 obtain⟨a,b,xs,ys,rfl,rfl,ha,hb,hx,hz,q1,q2⟩:=h
 cases rx
 cases ry
 obtain⟨its,r1,p1,_⟩:=I.tuple ha
 obtain⟨its2,r2,p2,_⟩:=I.tuple hb
 refine HT.cat_tup p1 p2 (fun z=>hx (r1.nil_iff.mp z)) (fun z=>⟨.ref a,H,I,rfl,q1 (r2.nil_iff.mp z)⟩) (fun z=>?_) (by rw[<- r1.length,<- r2.length];exact hz)
 refine⟨.ref s.heap.objs.size,_,I.laid (t':=s.toks) (o:=.tup (xs++ys)) (fun b ob q=>Ad _ q) (Ah _) ?_,rfl,q2 (fun w=>z (r2.nil_iff.mpr w)) _ (I.hok.fresh (Ah _))⟩
 exact⟨by rw[Ag];exact hz,_,r1.append r2,IsTup.new _ _⟩
end
noncomputable def ixN (n:Nat) (i:Int):Option Nat:=if 0<=i then (if i<n then some i.toNat else none) else if -(n:Int)<=i then some (i+n).toNat else none
noncomputable def atI {α:Type}(xs:List α) (i:Int):Option α:=(ixN xs.length i).bind fun j=>xs[j]?
theorem zj {n:Nat}{i:Int}{j:Nat}(h:ixN n i=some j):seqIndex? i n=some j/\j<n /\ -(n:Int)<=i/\i<n:=by
 unfold ixN at h
 by_cases h0:0<=i
 . rw[if_pos h0] at h
   by_cases h1:i<n
   . rw[if_pos h1] at h
     have e:i.toNat=j:=Av h
     exact⟨by rw[HY h0 h1,e],by omega,by omega,h1⟩
   . rw[if_neg h1] at h;cases h
 . rw[if_neg h0] at h
   by_cases h1 : -(n:Int)<=i
   . rw[if_pos h1] at h
     have e:(i+n).toNat=j:=Av h
     exact⟨by rw[HB (by omega) h1,e],by omega,h1,by omega⟩
   . rw[if_neg h1] at h;cases h
theorem su {α:Type}{xs:List α}{i:Int}{v:α}(h:atI xs i=some v):∃j,seqIndex? i xs.length=some j/\xs[j]? = some v/\j<xs.length /\ -(xs.length:Int)<=i/\i<xs.length:=by
 unfold atI at h
 cases e:ixN xs.length i with
 | none=>rw[e] at h;cases h
 | some j =>
   rw[e] at h
   obtain⟨h1,h2,h3,h4⟩:=zj e
   exact⟨j,h1,h,h2,h3,h4⟩
theorem c8 {α:Type}{xs:List α}{j:Nat}{v:α}(h:xs[j]? = some v):atI xs (j:Int)=some v:=by
 have hj:j<xs.length:=(Aq.mp h).1
 have e:ixN xs.length (j:Int)=some j:=by
   unfold ixN
   rw[if_pos (by omega),if_pos (by omega)];simp
 unfold atI;rw[e];exact h
noncomputable def zk (b:Expr):Prop:=∀o i,subscripted b false o i=operate [o,i] (getItem o i)
noncomputable def IxR (X:Cx) (r:R2):Prop :=
 ∀(value slice:Expr) (pins:List (Addr×Obj)) (s:Shared) (σ:St) (H:Hp) (x y:V) (v u:Value) (Q:VK),Inv X pins σ H s->RelV x v->RelV y u->r x y H Q->
   subscripted slice false v u=operate [v,u] (getItem v u)->wpAny (model X.prog X.w) X.A (subscriptTail value slice v u) (EP X pins σ Q) X.xe s
noncomputable def MtR (X:Cx) (id:String) (r:V->List V->Hp->VK->Prop):Prop :=
 ∀(pins:List (Addr×Obj)) (s:Shared) (σ:St) (H:Hp) (x:V) (xs:List V) (v:Value) (us:List Value) (Q:VK),Inv X pins σ H s->RelV x v->Vals xs us->r x xs H Q->
   wpAny (model X.prog X.w) X.A (call (.builtin id) (v::us)) (EP X pins σ Q) X.xe s
section
variable {X:Cx}{a b:Expr}{ta tb:TE}{pos:Pos}
theorem uy {r:R2}(hr:IxR X r) (ha:PE X a ta) (hb:PE X b tb) (hs:zk b):PE X (.Subscript a b pos) (tOp r ta tb):=by
 intro pins s σ H Q I h
 exact Subscript_ (binT ha hb I h fun v u s2 x y H2 I2 rx ry q=>hr a b pins s2 σ H2 x y v u Q I2 rx ry q (hs _ _))
noncomputable def rIxL (K:Ab):R2:=fun x y H Q=>∃p xs i v,x=.ref p/\y=.int i/\SqL K H p xs/\atI xs i=some v/\Q v H
noncomputable def rIxT (K:Ab):R2:=fun x y H Q=>∃p xs i v,x=.ref p/\y=.int i/\SqT K H p xs/\atI xs i=some v/\Q v H
noncomputable def rIxS:R2:=fun x y H Q=>∃z i c,x=.str z/\y=.int i/\z.length<=sizeLine/\atI z.cps.toList i=some c/\Q (.str ⟨#[c]⟩) H
theorem ef:IxR X (rIxL X.K):=by
 intro value slice pins s σ H x y v u Q I rx ry h hs
 obtain⟨p,xs,i,z,rfl,rfl,hq,he,q⟩:=h
 cases rx
 obtain⟨t,rfl⟩:=ry
 obtain⟨its,r,pl,hz⟩:=I.list hq
 obtain⟨j,h1,h2,h3,h4,h5⟩:=su he
 obtain⟨w,ew,rw'⟩:=r.get h2
 have hl:=r.length
 have hn:=jk
 have fin:EP X pins σ Q w s:=⟨z,H,I,rw',q⟩
 by_cases h0:0<=i
 . have hj:i.toNat=j:=by
     rw[HY h0 h5] at h1
     exact Av h1
   exact item_listR pl.isList h0 (by omega) (by rw[hj];simpa using ew) fin hs
 . have hj:(i+(its.toArray.size:Int)).toNat=j:=by
     rw[HB (by omega) h4] at h1
     rw[Ar,<- hl]
     exact Av h1
   exact subscriptTail_builtinR (x:=w) pl.isList.typeIs HN.lookup
     (wpAny_getItem_list_neg (Q:=fun r s'=>r=w/\EP X pins σ Q r s') pl.isList (by omega) (by rw[Ar]<;>omega) (by omega) (by rw[hj];simpa using ew) ⟨rfl,fin⟩) hs
theorem ay:IxR X (rIxT X.K):=by
 intro value slice pins s σ H x y v u Q I rx ry h hs
 obtain⟨p,xs,i,z,rfl,rfl,hq,he,q⟩:=h
 cases rx
 obtain⟨t,rfl⟩:=ry
 obtain⟨its,r,pl,hz⟩:=I.tuple hq
 obtain⟨j,h1,h2,h3,h4,h5⟩:=su he
 obtain⟨w,ew,rw'⟩:=r.get h2
 have hl:=r.length
 have hn:=jk
 have fin:EP X pins σ Q w s:=⟨z,H,I,rw',q⟩
 exact subscriptTail_builtinR (x:=w) pl.typeIs slot_tuple_getitem.lookup
   (getItem_tuple (j:=j) (Q:=fun r s'=>r=w/\EP X pins σ Q r s') pl (by omega) (by omega) (by rw[Ar,<- hl];exact h1) (by simpa using ew) ⟨rfl,fin⟩) hs
theorem gr:IxR X rIxS:=by
 intro value slice pins s σ H x y v u Q I rx ry h hs
 obtain⟨z,i,c,rfl,rfl,hz,he,q⟩:=h
 obtain⟨t,rfl⟩:=rx
 obtain⟨t',rfl⟩:=ry
 obtain⟨j,h1,h2,h3,h4,h5⟩:=su he
 have hl:z.cps.toList.length=z.length:=by simp[Fp]
 rw[hl] at h1 h4 h5
 have hn:=jk
 exact tail_any (Hb s z t) slot_str_getitem.lookup (getItem_str (c:=c) (by
   have e1:decide (i < -(2 ^ 63:Int))=false:=decide_eq_false (by omega)
   have e2:decide (i >= 2 ^ 63)=false:=decide_eq_false (by omega)
   rw[e1,e2,IG]) (by rw[h1];simpa using h2) ⟨.str ⟨#[c]⟩,H,I.tok _,⟨_,rfl⟩,q⟩) hs
theorem a0x (its:List Value) (n j:Nat) (u:Value):DR (·.setIfInBounds j u) { cls:=.type "list",data:=.seq its.toArray n }={ cls:=.type "list",data:=.seq (its.set j u).toArray n }:=by
 simp[DR]
theorem Inv.lst {pins:List (Addr×Obj)}{σ:St}{H:Hp}{s:Shared}{p:Addr}{xs:List V}(I:Inv X pins σ H s) (h:H p=some (.lst xs)) :
   ∃(its:List Value) (n:Nat),Vals xs its/\s.heap.get? p=some { cls:=.type "list",data:=.seq its.toArray n }/\xs.length<=sizeLine:=by
 obtain⟨z,its,n,r,e⟩:=I.hok p _ h
 exact⟨its,n,r,e,z⟩
theorem Inv.lstUpd {pins:List (Addr×Obj)}{σ:St}{H:Hp}{s:Shared}{p:Addr}{xs ys:List V}{its its':List Value}{n n':Nat}{f:Obj->Obj}(I:Inv X pins σ H s) (h:H p=some (.lst xs))
   (ho:s.heap.get? p=some { cls:=.type "list",data:=.seq its.toArray n }) (hf:f { cls:=.type "list",data:=.seq its.toArray n }={ cls:=.type "list",data:=.seq its'.toArray n' }) (r:Vals ys its') (hz:ys.length<=sizeLine) (t:Nat) :
   Inv X pins σ (upd H p (.lst ys)) { s with heap:=s.heap.update p f,toks:=t }:=by
 have e:(s.heap.update p f).get? p=some { cls:=.type "list",data:=.seq its'.toArray n' }:=by
   rw[Bl f ho (by rw[hf]<;>rfl),hf]
 refine I.write (x:=p) (e:=p) (by rw[h];trivial) (.inl rfl) (fun b u hb q=>(Bd _ _ (AO hb)).trans q) ⟨_,e⟩ ?_
 exact⟨hz,its',n',r,e⟩
noncomputable def aam:V->V->V->Hp->(Hp->Prop)->Prop:=fun o i v H Q=>∃p xs k j,o=.ref p/\i=.int k/\H p=some (.lst xs)/\ixN xs.length k=some j/\Q (upd H p (.lst (xs.set j v)))
theorem i5:PSet X aam:=by
 intro pins s σ H o i v ov iv u Q I ro ri rv h
 obtain⟨p,xs,k,j,rfl,rfl,hp,hj,q⟩:=h
 cases ro
 obtain⟨t,rfl⟩:=ri
 obtain⟨its,n,r,ho,hz⟩:=I.lst hp
 obtain⟨h1,h2,h3,h4⟩:=zj hj
 have hl:=r.length
 have hn:=jk
 have I':Inv X pins σ (upd H p (.lst (xs.set j v))) { s with heap:=s.heap.update p (DR (·.setIfInBounds j u)) } :=
   I.lstUpd hp ho (a0x its n j u) (r.set rv j) (by rw[List.length_set];exact hz) s.toks
 by_cases h0:0<=k
 . have hk:k.toNat=j:=by
     rw[HY h0 h4] at h1
     exact Av h1
   exact PySem.W.ki_setAt ho h0 (by omega) (by rw[Ar,<- hl];exact h4) (by rw[hk];exact⟨_,I',q⟩)
 . have hk:(k+(its.toArray.size:Int)).toNat=j:=by
     rw[HB (by omega) h3] at h1
     rw[Ar,<- hl]
     exact Av h1
   exact PySem.W.ki_setBack ho (by omega) (by rw[Ar,<- hl];exact h3) (by omega) (by rw[hk];exact⟨_,I',q⟩)
theorem wv (lo hi:Option Int) (n:Nat):(sliceBounds lo hi none n).1=((HT.sIx n 0 lo:Nat):Int)/\(sliceBounds lo hi none n).2.1=((HT.sIx n n hi:Nat):Int)/\(sliceBounds lo hi none n).2.2=1:=by
 refine⟨?_,?_,rfl⟩
 . cases lo with
   | none=>simp[sliceBounds,HT.sIx]
   | some i =>
     simp only[sliceBounds,HT.sIx,Ie,show (1:Int)>0 by decide,if_true]
     by_cases h:i<0
     . simp only[h,if_true]<;>omega
     . simp only[h,if_false]<;>omega
 . cases hi with
   | none=>simp[sliceBounds,HT.sIx]
   | some i =>
     simp only[sliceBounds,HT.sIx,Ie,show (1:Int)>0 by decide,if_true]
     by_cases h:i<0
     . simp only[h,if_true]<;>omega
     . simp only[h,if_false]<;>omega
theorem uq (its:List Value) (lo hi:Option Int):slicePick its.toArray lo hi none=((its.drop (HT.sIx its.length 0 lo)).take (HT.sIx its.length its.length hi - HT.sIx its.length 0 lo)).toArray:=by
 obtain⟨h1,h2,h3⟩:=wv lo hi its.toArray.size
 unfold slicePick
 rw[h1,h2,h3]
 simp only[sliceRange_one,pick_run,Ar]<;>rfl
noncomputable def rSlL (K:Ab):V->Option Int->Option Int->Hp->VK->Prop:=fun x lo hi H Q=>∃a xs,x=.ref a/\SqL K H a xs/\∀p,H p=none->Q (.ref p) (upd H p (.lst (cutV xs lo hi)))
theorem a7u:SlR X (rSlL X.K):=by
 intro pins s σ H x v vl vu lo hi sl Q I rx hs pl pu h
 obtain⟨a,xs,rfl,hx,q⟩:=h
 cases rx
 obtain⟨its,r,ht,hz⟩:=I.list hx
 have hlen:=r.length
 refine⟨"list",_,HN.lookup,ht.isList.typeIs,?_⟩
 refine wpAny_getItem_list_slice ht.isList hs pl pu .none (by simp) ?_ (by rw[Ar]<;>omega)
 rw[uq,<- hlen]
 refine⟨.ref s.heap.objs.size,_,I.laid (t':=s.toks) (o:=.lst (cutV xs lo hi)) (fun b ob q=>Ad _ q) (Ah _) ?_,rfl,q _ (I.hok.fresh (Ah _))⟩
 exact⟨Ax (ou xs lo hi) hz,_,0,(r.drop (HT.sIx xs.length 0 lo)).take (HT.sIx xs.length xs.length hi - HT.sIx xs.length 0 lo),An _ rfl⟩
noncomputable def ik:V->Bool
 | .non=>true
 | .bl _=>true
 | .int _=>true
 | .str _=>true
 | _=>false
noncomputable def eqV:V->V->Bool
 | .non,.non=>true
 | .bl a,.bl b=>a == b
 | .bl a,.int b=>(if a then 1 else 0) == b
 | .int a,.bl b=>a == (if b then 1 else 0)
 | .int a,.int b=>a == b
 | .str a,.str b=>a == b
 | _,_=>false
theorem a92 {A:Around}{s:Shared}{y x:V}{u v:Value}(ry:RelV y u) (rx:RelV x v) (fy:ik y=true) (fx:ik x=true):Hc A s u v (eqV y x):=by
 cases y with
 | non =>
   cases ry
   cases x with
   | non=>cases rx;exact DA _
   | bl b=>cases rx;exact SeqAt.EqAt.none_bool b
   | int b=>obtain⟨t,rfl⟩:=rx;exact SeqAt.EqAt.none_int b t
   | str b=>obtain⟨t,rfl⟩:=rx;exact SeqAt.EqAt.none_str b t
   | _=>exact absurd (show false=true from fx) Af
 | bl a =>
   cases ry
   cases x with
   | non=>cases rx;exact SeqAt.EqAt.bool_none a
   | bl b=>cases rx;exact SeqAt.EqAt.bool_bool a b
   | int b=>obtain⟨t,rfl⟩:=rx;exact SeqAt.EqAt.bool_int a b t
   | str b=>obtain⟨t,rfl⟩:=rx;exact SeqAt.EqAt.bool_str a b t
   | _=>exact absurd (show false=true from fx) Af
 | int a =>
   obtain⟨t',rfl⟩:=ry
   cases x with
   | non=>cases rx;exact SeqAt.EqAt.int_none a t'
   | bl b=>cases rx;exact SeqAt.EqAt.int_bool a t' b
   | int b=>obtain⟨t,rfl⟩:=rx;exact HC a t' b t
   | str b=>obtain⟨t,rfl⟩:=rx;exact Hs a t' b t
   | _=>exact absurd (show false=true from fx) Af
 | str a =>
   obtain⟨t',rfl⟩:=ry
   cases x with
   | non=>cases rx;exact SeqAt.EqAt.str_none a t'
   | bl b=>cases rx;exact SeqAt.EqAt.str_bool a t' b
   | int b=>obtain⟨t,rfl⟩:=rx;exact Ht a t' b t
   | str b=>obtain⟨t,rfl⟩:=rx;exact HD a t' b t
   | _=>exact absurd (show false=true from fx) Af
 | _=>exact absurd (show false=true from fy) Af
noncomputable def eqU (x:V) (u:Value):Bool:=match u with
 | .none=>eqV .non x
 | .bool b=>eqV (.bl b) x
 | .int i _=>eqV (.int i) x
 | .str z _=>eqV (.str z) x
 | _=>false
theorem a1y {x y:V}{u:Value}(r:RelV y u) (f:ik y=true):eqU x u=eqV y x:=by
 cases y with
 | non=>cases r;rfl
 | bl b=>cases r;rfl
 | int i=>obtain⟨t,rfl⟩:=r;rfl
 | str z=>obtain⟨t,rfl⟩:=r;rfl
 | _=>exact absurd (show false=true from f) Af
theorem jm {x:V}:∀{xs:List V}{us:List Value},Vals xs us->xs.all ik=true->us.any (eqU x)=xs.any fun y=>eqV y x
 | _,_,.nil,_=>rfl
 | y::xs,u::us,.cons r t,f=>by
   rw[IH,Cc] at f
   rw[Ef,Ef,a1y r f.1,jm t f.2]
theorem ip {A:Around}{s:Shared}{x:V}{v:Value}(rx:RelV x v) (fx:ik x=true):∀{xs:List V}{us:List Value},Vals xs us->xs.all ik=true->∀u∈us,Hc A s u v (eqU x u)
 | _,_,.nil,_=>fun u hu=>by cases hu
 | y::xs,u::us,.cons r t,f=>fun u' hu=>by
   rw[IH,Cc] at f
   rcases Al.mp hu with rfl|hu
   . rw[a1y r f.1];exact a92 r rx f.1 fx
   . exact ip rx fx t f.2 u' hu
noncomputable def inV (x:V) (xs:List V):Bool:=xs.any fun y=>eqV y x
noncomputable def rIn (K:Ab) (neg:Bool):R2:=fun x y H Q=>∃p xs,y=.ref p/\(SqL K H p xs\/SqT K H p xs)/\ik x=true/\xs.all ik=true/\Q (.bl (if neg then !inV x xs else inV x xs)) H
theorem jb:OpR X (compareOp .In) (rIn X.K false):=by
 intro pins s σ H x y v u Q I rx ry h
 obtain⟨p,xs,rfl,hq,fx,fs,q⟩:=h
 cases ry
 rcases hq with hq|hq
 . obtain⟨its,r,pl,hz⟩:=I.list hq
   refine SeqAt.in_listAt (eqU x) pl.isList (fun w hw=>ip rx fx r fs w (by simpa using hw)) ⟨.bl _,H,I,rfl,?_⟩
   rw[show its.toArray.any (eqU x)=its.any (eqU x) by simp,jm r fs]
   exact q
 . obtain⟨its,r,pl,hz⟩:=I.tuple hq
   refine SeqAt.in_tupleAt (eqU x) pl (fun w hw=>ip rx fx r fs w (by simpa using hw)) ⟨.bl _,H,I,rfl,?_⟩
   rw[show its.toArray.any (eqU x)=its.any (eqU x) by simp,jm r fs]
   exact q
theorem lc:OpR X (compareOp .NotIn) (rIn X.K true):=by
 intro pins s σ H x y v u Q I rx ry h
 obtain⟨p,xs,rfl,hq,fx,fs,q⟩:=h
 cases ry
 rcases hq with hq|hq
 . obtain⟨its,r,pl,hz⟩:=I.list hq
   refine SeqAt.notIn_listAt (eqU x) pl.isList (fun w hw=>ip rx fx r fs w (by simpa using hw)) ⟨.bl _,H,I,rfl,?_⟩
   rw[show its.toArray.any (eqU x)=its.any (eqU x) by simp,jm r fs]
   exact q
 . obtain⟨its,r,pl,hz⟩:=I.tuple hq
   refine SeqAt.notIn_tupleAt (eqU x) pl (fun w hw=>ip rx fx r fs w (by simpa using hw)) ⟨.bl _,H,I,rfl,?_⟩
   rw[show its.toArray.any (eqU x)=its.any (eqU x) by simp,jm r fs]
   exact q
theorem du:cy X (.builtin "len") (fun xs H Q=>∃p ys,xs=[.ref p]/\(SqL X.K H p ys\/SqT X.K H p ys)/\Q (.int ys.length) H):=by
 intro pins s σ H xs us Q I r h
 obtain⟨p,ys,rfl,hq,q⟩:=h
 obtain⟨u,rfl,rx⟩:=jy r
 cases rx
 have hn:=jk
 rcases hq with hq|hq
 . obtain⟨its,r',pl,hz⟩:=I.list hq
   have hlen:=r'.length
   exact Calls.call_len_list pl.isList (by simp only[Ar]<;>omega) ⟨.int ys.length,H,I.tok _,⟨s.toks+1,by rw[Ar,hlen]⟩,q⟩
 . obtain⟨its,r',pl,hz⟩:=I.tuple hq
   have hlen:=r'.length
   exact len_tuple pl (by simp only[Ar]<;>omega) ⟨.int ys.length,H,I.tok _,⟨s.toks+1,by rw[Ar,hlen]⟩,q⟩
theorem m9:cy X (.builtin "len") (fun xs H Q=>∃z,xs=[.str z]/\z.length<=sizeLine/\Q (.int z.length) H):=by
 intro pins s σ H xs us Q I r h
 obtain⟨z,rfl,hz,q⟩:=h
 obtain⟨u,rfl,t,rfl⟩:=jy r
 have hn:=jk
 exact len_str (by omega) ⟨.int z.length,H,I.tok _,⟨_,rfl⟩,q⟩
theorem dr:cy X (.type "list") (fun xs H Q=>∃p ys,xs=[.ref p]/\(SqL X.K H p ys\/SqT X.K H p ys)/\∀l,H l=none->Q (.ref l) (upd H l (.lst ys))):=by
 intro pins s σ H xs us Q I r h
 obtain⟨p,ys,rfl,hq,q⟩:=h
 obtain⟨u,rfl,rx⟩:=jy r
 cases rx
 have fin:∀(its:List Value),Vals ys its->ys.length<=sizeLine->∀(h':Heap) (c':Nat),(∀b o',s.heap.get? b=some o'->h'.get? b=some o')->
     h'.get? s.heap.objs.size=some { cls:=.type "list",dict:=none,data:=.seq its.toArray c',slots := #[] }->EP X pins σ Q (.ref s.heap.objs.size) { s with heap:=h' }:=fun its r' hz h' c' kp e =>
   ⟨.ref s.heap.objs.size,_,I.laid (t':=s.toks) kp (Ah _) (show ObjOk X.prog X.w _ h' _ (.lst ys) from⟨hz,its,c',r',e⟩),rfl,q _ (I.hok.fresh (Ah _))⟩
 rcases hq with hq|hq
 . obtain⟨its,r',pl,hz⟩:=I.list hq
   have hlen:=r'.length
   obtain⟨o,ho,hc,n,hd⟩:=pl.isList
   exact call_list_seq p (.inl rfl) ho hc hd (fun h' c' kp e=>fin its r' hz h' c' kp e) (by simp only[Ar]<;>omega)
 . obtain⟨its,r',pl,hz⟩:=I.tuple hq
   have hlen:=r'.length
   obtain⟨o,ho,hc,n,hd⟩:=pl
   exact call_list_seq p (.inr rfl) ho hc hd (fun h' c' kp e=>fin its r' hz h' c' kp e) (by simp only[Ar]<;>omega)
theorem kx:cy X (.type "tuple") (fun xs H Q=>∃p ys,xs=[.ref p]/\((SqL X.K H p ys/\∀l,H l=none->Q (.ref l) (upd H l (.tup ys)))\/(SqT X.K H p ys/\Q (.ref p) H))):=by
 intro pins s σ H xs us Q I r h
 obtain⟨p,ys,rfl,h⟩:=h
 obtain⟨u,rfl,rx⟩:=jy r
 cases rx
 rcases h with⟨hq,q⟩|⟨hq,q⟩
 . obtain⟨its,r',pl,hz⟩:=I.list hq
   have hlen:=r'.length
   refine call_tuple_list pl.isList (fun h' kp=>?_) (by simp only[Ar]<;>omega)
   have I1:Inv X pins σ H { s with heap:=h' }:=I.kept (t':=s.toks) kp
   have I2:Inv X pins σ (upd H h'.objs.size (.tup ys)) { s with heap:=h'.push { cls:=.type "tuple",data:=.seq its.toArray } } :=
     I1.laid (t':=s.toks) (fun b o e=>Ad _ e) (Ah _) (show ObjOk X.prog X.w _ _ _ (.tup ys) from⟨hz,its,r',IsTup.new _ _⟩)
   exact⟨.ref h'.objs.size,_,I2,rfl,q _ (I1.hok.fresh (Ah _))⟩
 . obtain⟨its,r',pl,hz⟩:=I.tuple hq
   exact call_tuple_same pl ⟨.ref p,H,I,rfl,q⟩
noncomputable def tyV (K:Ab) (T:String) (x:V) (H:Hp):Prop:=match x with
 | .str _=>T = "str"
 | .int _=>T = "int"
 | .ref p=>(T = "list" /\ ∃xs,SqL K H p xs)\/(T = "tuple" /\ ∃o,K.lookup p=some o/\o.cls=.type "tuple" /\ o.dict=none)\/
     (T = "dict" /\ ((∃kvs,H p=some (.dK kvs))\/∃kvs,H p=some (.dT kvs)))\/(T = "set" /\ ∃S n,H p=some (.set S n))
 | _=>False
theorem a3y {pins:List (Addr×Obj)}{σ:St}{H:Hp}{s:Shared}{T:String}{x:V}{v:Value}(I:Inv X pins σ H s) (r:RelV x v) (ty:tyV X.K T x H) :
   s.TypeIs v T/\∀a,v=.ref a->∃ob,s.heap.get? a=some ob/\ob.dict=none:=by
 cases x with
 | str z =>
   obtain⟨t,rfl⟩:=r
   cases (show T = "str" from ty)
   exact⟨Hb s z t,fun _ e=>nomatch e⟩
 | int i =>
   obtain⟨t,rfl⟩:=r
   cases (show T = "int" from ty)
   exact⟨typeIs_int s i t,fun _ e=>nomatch e⟩
 | ref p =>
   cases r
   rcases ty with⟨rfl,xs,hq⟩|⟨rfl,o,hk,hc,hd⟩|⟨rfl,hk⟩|⟨rfl,S,n,hk⟩
   . obtain⟨its,_,pl,_⟩:=I.list hq
     refine⟨pl.isList.typeIs,fun a e=>?_⟩
     cases e
     obtain⟨o,n,e,c,hd,_⟩:=pl
     exact⟨o,e,hd⟩
   . refine⟨⟨o,I.kIn p o hk,hc⟩,fun a e=>?_⟩
     cases e
     exact⟨o,I.kIn _ o hk,hd⟩
   . have z:∃o,s.heap.get? p=some o/\o.ExactDict:=by
       rcases hk with⟨kvs,hk⟩|⟨kvs,hk⟩
       . obtain⟨_,_,_,_,o,_,_,e,ex,_⟩:=I.hok p _ hk
         exact⟨o,e,ex⟩
       . obtain⟨_,_,_,_,o,_,_,e,ex,_⟩:=I.hok p _ hk
         exact⟨o,e,ex⟩
     obtain⟨o,e,ex⟩:=z
     refine⟨⟨o,e,ex.1⟩,fun a e2=>?_⟩
     cases e2
     exact⟨o,e,ex.2.1⟩
   . obtain⟨o,_,_,_,e,ex,_⟩:=I.hok p _ hk
     refine⟨⟨o,e,ex.1⟩,fun a e2=>?_⟩
     cases e2
     exact⟨o,e,ex.2.1⟩
 | _=>exact Cm ty
noncomputable def tBM0 (K:Ab) (T:String) (r:V->List V->Hp->VK->Prop) (to:TE):TE:=fun σ H Q=>to σ H fun x H1=>tyV K T x H1/\r x [] H1 Q
noncomputable def tBM (K:Ab) (T:String) (r:V->List V->Hp->VK->Prop) (to:TE) (t:TA):TE:=fun σ H Q=>to σ H fun x H1=>tyV K T x H1/\t σ H1 fun xs H2=>r x xs H2 Q
variable {o e:Expr}{es:List Expr}{to:TE}{t:TA}{name:Str}{apos cpos:Pos}{T id:String}{r:V->List V->Hp->VK->Prop}
theorem aab (pa:PlainAttrs T) (slot:Slot T name id) (hty:typeOf (.builtin id)=pure (.type "method_descriptor")) (hm:MtR X id r) (ho:PE X o to)
   (hbase:attributeBase o name X.env (eval o X.env)=eval o X.env:=by rfl) (hline:(apos.endLine == cpos.line)=true:=by rfl):PE X (.Call (.Attribute o name apos) [] [] cpos) (tBM0 X.K T r to):=by
 intro pins s σ H Q I h
 refine wpAny_Call_method0_late hbase hline (thn (ho pins s σ H _ I h) fun v s1 ⟨x,H1,I1,r1,ty,q1⟩=>?_)
 obtain⟨h1,h2⟩:=a3y I1 r1 ty
 exact⟨T,id,pa,slot,hty,h1,h2,CG rfl (PySem.evalArgs_none (hm pins s1 σ H1 x [] v [] Q I1 r1 .nil q1))⟩
theorem a77 (pa:PlainAttrs T) (slot:Slot T name id) (hty:typeOf (.builtin id)=pure (.type "method_descriptor")) (hm:MtR X id r) (ho:PE X o to) (ha:PA X (e::es) t)
   (hbase:attributeBase o name X.env (eval o X.env)=eval o X.env:=by rfl)
   (hfew:((backTo cpos (starEach (e::es) X.env)).all (fun x => !x.1) && (backToKw cpos (keywordEach [] X.env)).all (fun x=>x.1.isSome)
     && decide ((e::es).length+([]:List Keyword).length+(if ([]:List Keyword).isEmpty then 0 else 1)<30))=true:=by rfl)
   (hline:(apos.endLine == cpos.line)=true:=by rfl) (hs:starEach (e::es) X.env=(false,eval e X.env)::starEach es X.env:=by rfl) (hplain:(backTo cpos (starEach es X.env)).any (·.1)=false:=by rfl) :
   PE X (.Call (.Attribute o name apos) (e::es) [] cpos) (tBM X.K T r to t):=by
 intro pins s σ H Q I h
 refine Gf hbase hfew hline rfl (thn (ho pins s σ H _ I h) fun v s1 ⟨x,H1,I1,r1,ty,q1⟩=>?_)
 obtain⟨h1,h2⟩:=a3y I1 r1 ty
 refine⟨T,id,pa,slot,hty,h1,h2,?_⟩
 have hA:=ha cpos pins s1 σ H1 _ I1 q1
 rw[hs] at hA |-
 refine CG (by show (false || (backTo cpos (starEach es X.env)).any (·.1))=false;rw[hplain]<;>rfl) (Dv ?_)
 exact thn hA fun us s2 ⟨vs,H2,I2,r2,q2⟩=>hm pins s2 σ H2 x vs v us Q I2 r1 r2 q2
/- xs.append(e),list.index on a module's tuple .. are MtR facts of 06m -/
end
noncomputable def MtM (X:Cx) (id:String) (r:V->List V->Hp->VK->Prop):Prop :=
 ∀(pins:List (Addr×Obj)) (s:Shared) (σ:St) (H:Hp) (x:V) (xs:List V) (v:Value) (us:List Value) (Q:VK),Inv X pins σ H s->RelV x v->Vals xs us->r x xs H Q->
   wpAny (model X.prog X.w) X.A (call (.builtin id) (v::us)) (EP X pins σ Q) X.xe s
theorem Vals.one:∀{x:V}{us:List Value},Vals [x] us->∃u,us=[u]/\RelV x u
 | _,_,.cons r .nil=>⟨_,rfl,r⟩
theorem Vals.zero:∀{us:List Value},Vals [] us->us=[]
 | _,.nil=>rfl
theorem Vals.dropLast {xs:List V}{us:List Value}(h:Vals xs us):Vals xs.dropLast us.dropLast:=by
 induction h with
 | nil=>exact .nil
 | cons r t ih =>
   cases t with
   | nil=>exact .nil
   | cons q t'=>exact .cons r ih
theorem a0r {α:Type}(l:List α):l.eraseIdx (l.length - 1)=l.dropLast:=by
 induction l with
 | nil=>rfl
 | cons a r ih =>
   cases r with
   | nil=>rfl
   | cons b r =>
     have e:(a::b::r).length - 1=((b::r).length - 1)+1:=by
       have h1:(a::b::r).length=r.length+2:=rfl
       have h2:(b::r).length=r.length+1:=rfl
       omega
     rw[e,List.eraseIdx_cons_succ,ih]
     all_goals rfl
section
variable {X:Cx}{pins:List (Addr×Obj)}{σ:St}{H:Hp}{s:Shared}{l b:Addr}{xs ys zs:List V}
theorem Inv.lset {its its':List Value}{n:Nat}{f:Array Value->Array Value}{t':Nat}(I:Inv X pins σ H s) (hH:H l=some (.lst xs))
   (e:s.heap.get? l=some { cls:=.type "list",data:=.seq its.toArray n }) (hf:f its.toArray=its'.toArray) (hv:Vals ys its') (hz:ys.length<=sizeLine) :
   Inv X pins σ (upd H l (.lst ys)) { s with heap:=s.heap.update l (DR f),toks:=t' }:=by
 have q:=PySem.IsL.update e f
 rw[hf] at q
 refine I.write (x:=l) (e:=l) (by rw[hH];exact trivial) (.inl rfl) (fun b' u hb hu=>(Bd s.heap (DR f) (AO hb)).trans hu) ⟨_,q⟩ ?_
 exact⟨hz,its',_,hv,q⟩
theorem Inv.lnew {its:List Value}{t':Nat}(I:Inv X pins σ H s) (hv:Vals ys its) (hz:ys.length<=sizeLine) :
   Inv X pins σ (upd H s.heap.objs.size (.lst ys)) { s with heap:=s.heap.push { cls:=.type "list",data:=.seq its.toArray },toks:=t' } :=
 I.laid (fun _ _ q=>Ad _ q) (Ah _) ⟨hz,its,0,hv,An _ rfl⟩
theorem Inv.fresh (I:Inv X pins σ H s):H s.heap.objs.size=none:=I.hok.fresh (Ah _)
theorem Inv.lstM (I:Inv X pins σ H s) (hH:H l=some (.lst xs)):xs.length<=sizeLine/\∃(its:List Value) (n:Nat),Vals xs its/\xs.length=its.length/\s.heap.get? l=some { cls:=.type "list",data:=.seq its.toArray n }:=by
 obtain⟨z,its,n,r,e⟩:=I.hok l _ hH
 exact⟨z,its,n,r,r.length,e⟩
theorem a6i {n:Nat}(h:n<=sizeLine):DK n=false:=by
 unfold DK
 exact decide_eq_false (by omega)
end
section
variable {X:Cx}
noncomputable def se:V->List V->Hp->VK->Prop:=fun x vs H Q=>∃l xs y,x=.ref l/\vs=[y]/\H l=some (.lst xs)/\xs.length<sizeLine/\Q .non (upd H l (.lst (xs++[y])))
theorem em:MtM X "list.append" se:=by
 intro pins s σ H x vs v us Q I rx rv h
 obtain⟨l,xs,y,rfl,rfl,hH,hz,q⟩:=h
 cases rx
 obtain⟨u,rfl,ru⟩:=rv.one
 obtain⟨z,its,n,r,hl,e⟩:=I.lstM hH
 refine Iq F.slot_list_append ⟨_,e,rfl⟩ F.entry_list_append (F.args_list_append_2 _ _) (PySem.list_append l its.toArray n u (by rw[Ar];omega)) ⟨e,?_⟩
 refine⟨.non,_,I.lset (its':=its++[u]) hH e (by simp) (r.append (.cons ru .nil)) ?_,rfl,q⟩
 rw[Ag,AX]
 omega
noncomputable def a8v:V->List V->Hp->VK->Prop:=fun x vs H Q=>∃l b xs zs,x=.ref l/\vs=[.ref b]/\H l=some (.lst xs)/\H b=some (.lst zs)/\xs.length+zs.length<=sizeLine/\Q .non (upd H l (.lst (xs++zs)))
theorem mi:MtM X "list.extend" a8v:=by
 intro pins s σ H x vs v us Q I rx rv h
 obtain⟨l,b,xs,zs,rfl,rfl,hH,hB,hz,q⟩:=h
 cases rx
 obtain⟨u,rfl,ru⟩:=rv.one
 cases ru
 obtain⟨z,its,n,r,hl,e⟩:=I.lstM hH
 obtain⟨z2,its2,n2,r2,hl2,e2⟩:=I.lstM hB
 have hsz:its.toArray.size+its2.toArray.size<=sizeLine:=by rw[Ar,Ar];omega
 have hlong:¬ (!its.toArray.isEmpty && DK (its.toArray.size+its2.toArray.size))=true:=by
   rw[a6i hsz,Bool.and_false]
   exact Af
 refine Iq F.slot_list_extend ⟨_,e,rfl⟩ F.entry_list_extend (F.args_list_extend_2 _ _)
   (AutoSeq1.list_extend_list_list_0 l its.toArray n b its2.toArray n2 hlong (by rw[Ar];omega) (by omega)) ⟨e,e2,?_⟩
 refine⟨.non,_,I.lset (its':=its++its2) hH e (by simp) (r.append r2) ?_,rfl,q⟩
 rw[Ag]
 omega
noncomputable def rPop:V->List V->Hp->VK->Prop:=fun x vs H Q=>∃l xs y,x=.ref l/\vs=[]/\H l=some (.lst xs)/\xs[xs.length - 1]? = some y/\Q y (upd H l (.lst xs.dropLast))
theorem wk:MtM X "list.pop" rPop:=by
 intro pins s σ H x vs v us Q I rx rv h
 obtain⟨l,xs,y,rfl,rfl,hH,hy,q⟩:=h
 cases rx
 have hus:=rv.zero
 subst hus
 obtain⟨z,its,n,r,hl,e⟩:=I.lstM hH
 obtain⟨u,hu,ru⟩:=r.get hy
 have hy':its.toArray[its.toArray.size - 1]? = some u:=by
   show its.toArray[its.length - 1]? = some u
   rw[<- BJ,<- hl]
   exact hu
 refine Iq F.slot_list_pop ⟨_,e,rfl⟩ F.entry_list_pop (F.args_list_pop_1 _) (MeetsSeq.list_pop_last l its.toArray n u hy' (by rw[Ar];omega)) ⟨e,?_⟩
 refine⟨y,_,I.lset (its':=its.dropLast) hH e ?_ r.dropLast ?_,ru,q⟩
 . show its.toArray.eraseIdxIfInBounds (its.toArray.size - 1)=its.dropLast.toArray
   rw[Ar,List.eraseIdxIfInBounds_toArray,a0r]
 . rw[List.length_dropLast]
   omega
noncomputable def rCat:R2:=fun x y H Q=>∃l b xs zs,x=.ref l/\y=.ref b/\H l=some (.lst xs)/\H b=some (.lst zs)/\xs.length+zs.length<=sizeLine/\∀p,H p=none->Q (.ref p) (upd H p (.lst (xs++zs)))
theorem ir:OpR X (binaryOp .Add) rCat:=by
 intro pins s σ H x y v u Q I rx ry h
 obtain⟨l,b,xs,zs,rfl,rfl,hH,hB,hz,q⟩:=h
 cases rx
 cases ry
 obtain⟨z,its,n,r,hl,e⟩:=I.lstM hH
 obtain⟨z2,its2,n2,r2,hl2,e2⟩:=I.lstM hB
 refine PySem.P.add_list e e2 ?_ (by rw[Ar,Ar];omega)
 have ea:its.toArray++its2.toArray=(its++its2).toArray:=by simp
 rw[ea]
 exact⟨.ref _,_,I.lnew (t':=s.toks) (r.append r2) (by rw[Ag];omega),rfl,q _ I.fresh⟩
end
section
variable {prog:Program}{w:World}{A:Around}{E:Value->Shared->Prop}{s:Shared}
end
section
variable {X:Cx}
end
end L2
namespace Att
open PySem PySem.W PySem.Calls PyProof.Rows
theorem rf {P:Params}{h:Heap}:∀(ns:List Int) (vs:List Value),WellAll P h vs (ns.map WData.int)->IntsAre vs ns:=by
 intro ns
 induction ns with
 | nil =>
   intro vs w
   rw[IM] at w
   cases w
   exact .nil
 | cons n ns ih =>
   intro vs w
   rw[AA] at w
   cases w with
   | cons a b =>
     cases a
     exact .cons _ _ (ih _ b)
theorem a1q {l:OpenLaw}{n:Nat}(hn:l.most=some n) {P:Params}{h:Heap}{args:List WData}{vals:List Value}
   (hpre:l.row.toRowW.claim.pre args=true) (hwl:WellAll P h vals args) :
   ∃a vs ns,vals=[Value.ref a]/\args=[WData.list (ns.map WData.int)]/\h.get? a=some { cls:=.type "list",data:=.seq vs.toArray }/\IntsAre vs ns/\ns.length<=n:=by
 have hsh:WShape.hasAll [] args [.list .int]=true:=(pre_splitW hpre).1
 have hc:l.pre.holds [] { args:=args }=true:=(pre_splitW hpre).2
 obtain⟨d,r,rfl,h1,h2⟩:=hasAllW_cons hsh
 obtain rfl:=hasAllW_nil h2
 obtain⟨xs,rfl,h3⟩:=hasW_list h1
 obtain⟨ns,rfl⟩:=items_int h3
 have hlen:ns.length<=n:=by
   unfold OpenLaw.pre at hc
   have h4:(WTm.not (.lt (.lit (.int (n:Int))) (.len (.arg 0)))).holds [] { args:=[.list (ns.map .int)] }=true:=by
     have h4:=(holds_andW hc).1
     rw[hn] at h4
     exact h4
   have h5:=condW_of h4 (w_not (w_lt w_lit (w_len_list (w_arg rfl))))
   rw[Ac] at h5
   refine Fw fun q=>?_
   have q':(n:Int)<((ns.length:Nat):Int):=by omega
   first
     | (rw[decide_eq_true q'] at h5;exact absurd h5 (by decide))
     | (simp at h5;omega)
 cases hwl with
 | cons w1 w2 =>
   cases w2
   cases w1 with
   | list ho hall=>exact⟨_,_,ns,rfl,rfl,ho,rf ns _ hall,hlen⟩
theorem a1u (l:OpenLaw) (args:List WData):l.row.toRowW.claim.post args (.bool true) args=true :=
 postW_of (r:=l.row.toRowW) (X:=(true == true))
   (show WShape.has [] (.bool true) .bool=true by first|rfl|decide|simp[WShape.has,WShape.arms,WShape.armsAll])
   (show (WTm.eq .res (.lit (.bool true))).value [] { args:=args,res:=some (.bool true),after:=args }=some (.bool (true == true)) from w_eq_bool (w_res rfl) w_lit) rfl
theorem attach_call {l:OpenLaw}{n:Nat}{q:Program}{loose:List Str}{XP:(Str->Option Value)->Heap->Prop}{YP:World->Heap->Prop}{d:DefRec}
   (hn:l.most=some n) (hdf:d.params.defaults=[])
   (call:∀(w:World) (s₀ s₁:Shared) (mg mb:Str->Option Value) (fa:Addr) (o:Obj) (pm cd doc:Value) (a:Addr) (vs:List Value) (ns:List Int),
     Ground q loose [] XP w s₀ mg mb s₁.heap->YP w s₁.heap->
     s₁.heap.get? fa=some o->o.data=.func (docDef d.name d.params d.body d.scope pm cd doc)->s₁.heap.CodeRec cd d.name->mg d.name=some (.ref fa)->
     s₁.heap.get? a=some { cls:=.type "list",data:=.seq vs.toArray }->IntsAre vs ns->ns.length<=n->s₁.gens = #[]->
     codeAny (model l.prog w) callerA (.call (.ref fa) ⟨[.ref a],[]⟩) (fun r s'=>r=.ok (.ret (.bool true))/\OldK s₁.heap s'.heap/\s'.os=s₁.os/\AllBare s'.gens) s₁) :
   WalkO q loose XP YP l.row.toRowW d [] (fun f vs=>Ir f vs):=by
 intro w s₀ s₁ mg mb G Y fa o pm cd doc dV kV ho hd hcd hD hmg hg args vals as hpre hlay hrd hwl hlo
 obtain rfl:dV=.none:=Dflts.none hD hdf
 obtain rfl:kV=.none:=Dflts.noKw hD
 obtain⟨a,vs,ns,rfl,rfl,hobj,hints,hlen⟩:=a1q hn hpre hwl
 refine enter_call (Dn (call w s₀ s₁ mg mb fa o pm cd doc a vs ns G Y ho (fd_plain hd) hcd hmg hobj hints hlen hg) fun r s' hq=>?_)
 obtain⟨rfl,h2,h3,h4⟩:=hq
 exact⟨.inl ⟨.bool true,.bool true,[],rfl,fun _=>rfl,.bool true,a1u l _,fun _=>⟨List.Pairwise.nil,fun _ hm=>(nomatch hm)⟩⟩,h2,h3,h4⟩
section
variable {prog:Program}{w:World}{A:Around}{E:Value->Shared->Prop}{s:Shared}{K:Frag}
end
end Att
namespace L2
open PySem PySem.Spec PyProof.Rows
theorem ug:∀{vs:List Value}{ns:List Int},IntsAre vs ns->Vals (ns.map V.int) vs
 | _,_,.nil=>.nil
 | _,_,.cons n t h=>.cons ⟨t,rfl⟩ (ug h)
noncomputable def Only (H:Hp):Prop:=∀b,H b=none\/∃o xs,H b=some (.frz o (.lst xs))
theorem a5g {P:Program}{w:World}{K:Ab}{mg mb:Str->Option Value}{CX:CXT}{k:Nat}{fa a:Addr}{fd:FuncData}{x:Str}{sp:Sp}{s₁:Shared}{vs:List Value}{ns:List Int}
   (KX:K.In s₁.heap) (hns:s₁.heap.Ns mainGlobals mg) (hb:s₁.heap.Ns builtinsNs mb) (hbb:∀x:Str,x ≠ "__name__" -> mb x=bootBuiltins x) (hlim:s₁.heap.NoLimit) (hg:s₁.gens = #[])
   (ha:s₁.heap.get? a=some { cls:=.type "list",data:=.seq vs.toArray }) (hi:IntsAre vs ns) (hl:ns.length<=sizeLine) (hr:Room k callerA)
   (F:∀base:Heap,K.In base->base.Ns mainGlobals mg->FnOk P w K mg base CX k fa fd [x] sp) (hbind:∀(s:Shared) (u:Value),BindsTo s fd ⟨[u],[]⟩ [(x,u)])
   (hsp:∀H:Hp,Only H->SqL K H a (ns.map V.int)->sp [.ref a] H (fun v _=>v=.bl true) fun _ _ _=>False)
   (hCX:∀H e s',CX [] H s₁ (fun _ _ _=>False) e s'->False) :
   codeAny (model P w) callerA (.call (.ref fa) ⟨[.ref a],[]⟩) (fun r s'=>r=.ok (.ret (.bool true))/\OldK s₁.heap s'.heap/\s'.os=s₁.os/\AllBare s'.gens) s₁:=by
 have rv:=ug hi
 have lenV:=hi.length
 have core:∀H:Hp,Only H->SqL K H a (ns.map V.int)->HOk P w H s₁.heap->(∀b,H b≠none->b=a)->(H a≠none->K.lookup a=none)->
     codeAny (model P w) callerA (.call (.ref fa) ⟨[.ref a],[]⟩) (fun r s'=>r=.ok (.ret (.bool true))/\OldK s₁.heap s'.heap/\s'.os=s₁.os/\AllBare s'.gens) s₁:=by
   intro H hO hS hok hA hK
   have base_of:∀{b:Addr} {o:Obj},s₁.heap.get? b=some o->H b=none->(hidT s₁.heap H).get? b=some o:=fun e n=>a5q e n
   have noA:∀{b:Addr} {o:Obj} {es:Array DictEntry} {ep:Nat},s₁.heap.get? b=some o->o.data=.dict es ep->H b=none:=fun {b o es ep} e d=>by
     cases q:H b with
     | none=>rfl
     | some u =>
       have e':b=a:=hA b (by rw[q];simp)
       subst e'
       rw[ha] at e;cases e
       have d':Data.seq vs.toArray _=Data.dict es ep:=d
       cases d'
   have nsK:∀{b:Addr} {m:Str->Option Value},s₁.heap.Ns b m->(hidT s₁.heap H).Ns b m:=fun {b m} ⟨o,es,ep,e,d,r⟩=>⟨o,es,ep,base_of e (noA e d),d,r⟩
   have hKb:K.In (hidT s₁.heap H):=fun b o e=>base_of (KX b o e) (by
     cases q:H b with
     | none=>rfl
     | some u =>
       have e':b=a:=hA b (by rw[q];simp)
       subst e'
       rw[hK (by rw[q];simp)] at e;cases e)
   have hM:Mod K mg (hidT s₁.heap H):=⟨hKb,nsK hns,⟨mb,nsK hb,hbb⟩,let ⟨mc,h1,h2⟩:=hlim;⟨mc,nsK h1,h2⟩⟩
   have e0:Env0 P w K mg (hidT s₁.heap H) callerA [] s₁ H:=⟨rfl,hM,fun b o e=>a7d e,Et (a4a _ _),trivial,fun b hb=>absurd (show b∈([]:List Addr) from hb) (by simp),hok,.of_eq hg⟩
   refine Dn ((F _ hKb (nsK hns)).run callerA [] s₁ H ⟨[.ref a],[]⟩ [.ref a] [.ref a] _ _ hr e0 (hbind s₁ (.ref a)) (.cons rfl .nil) (hsp H hO hS)) fun r s' h=>?_
   cases r with
   | error e=>exact (hCX H e s' h).elim
   | ok fl =>
     cases fl with
     | next=>exact Cm h
     | brk=>exact Cm h
     | cont=>exact Cm h
     | ret u =>
       obtain⟨v,H',os,bare,un,hok',r',q⟩:=h
       have q':v=.bl true:=q
       subst q'
       obtain rfl:u=Value.bool true:=r'
       refine⟨rfl,OldK.of_keep fun b o e=>?_,os,bare⟩
       cases q:H b with
       | none=>exact un.keep b o e q (by intro z;exact absurd (show b∈([]:List Addr) from z) (by simp)) (by simp)
       | some u =>
         rcases hO b with z|⟨ob,xs,z⟩
         . rw[q] at z;cases z
         . have z2:=un.frzs b ob _ z
           obtain⟨e1,_⟩:=hok b _ z
           obtain⟨e2,_⟩:=hok' b _ z2
           rw[e] at e1;cases e1
           exact e2
 cases hk:K.lookup a with
 | some o =>
   have e:=KX a o hk
   rw[ha] at e
   cases e
   refine core (fun _=>none) (fun _=>.inl rfl) (.inr ⟨_,vs.toArray,_,hk,rfl,rfl,rfl,by rw[Ar,lenV];exact hl,by simpa using rv⟩) (fun b u z=>by have z':(none:Option HO)=some u:=z;cases z') (fun b z=>absurd rfl z) fun z=>absurd rfl z
 | none =>
   refine core (fun b=>if b=a then some (.frz { cls:=.type "list",data:=.seq vs.toArray } (.lst (ns.map V.int))) else none) (fun b=>?_) (.inl (.inr ⟨{ cls:=.type "list",data:=.seq vs.toArray },if_pos rfl⟩)) (fun b u z=>?_) (fun b z=>?_) fun _=>hk
   . by_cases hb:b=a
     . exact .inr ⟨_,_,if_pos hb⟩
     . exact .inl (if_neg hb)
   . by_cases hb:b=a
     . have z':=(if_pos hb).symm.trans z
       cases z'
       subst hb
       exact⟨ha,by rw[Ac];exact hl,vs,_,rv,ha⟩
     . have z':=(if_neg hb).symm.trans z
       cases z'
   . by_cases hb:b=a
     . exact hb
     . exact absurd (if_neg hb) z
theorem walk_of {l:FT}{n k:Nat}{q:Program}{loose:List Str}{XP:(Str->Option Value)->Heap->Prop}{YP:World->Heap->Prop}{d:DefRec}{K:Params->Ab}{CX:World->CXT}{sp:World->Sp}{x:Str}
   (hn:l.most=some n) (hn2:n<=sizeLine) (hdf:d.params.defaults=[]) (hr:Room k callerA)
   (hY:∀(w:World) (h:Heap),YP w h->(K w.params).In h)
   (F:∀(w:World) (mg:Str->Option Value) (fa:Addr) (h:Heap),(K w.params).In h->h.Ns mainGlobals mg->mg d.name=some (.ref fa)->
     ∃fd:FuncData,(∀(s:Shared) (u:Value),BindsTo s fd ⟨[u],[]⟩ [(x,u)])/\
       ∀base:Heap,(K w.params).In base->base.Ns mainGlobals mg->FnOk l.prog w (K w.params) mg base (CX w) k fa fd [x] (sp w))
   (hsp:∀(w:World) (H:Hp) (a:Addr) (ns:List Int),ns.length<=n->Only H->SqL (K w.params) H a (ns.map V.int)->sp w [.ref a] H (fun v _=>v=.bl true) fun _ _ _=>False)
   (hCX:∀(w:World) (H:Hp) (s:Shared) (e:Value) (s':Shared),CX w [] H s (fun _ _ _=>False) e s'->False) :
   II q loose XP YP l.row.toRowW d [] (fun f vs=>Ir f vs):=by
 refine Att.attach_call hn hdf fun w s₀ s₁ mg mb fa o pm cd doc a vs ns G Y ho hd hcd hmg hobj hints hlen hg=>?_
 have KX:=hY w _ Y
 obtain⟨fd,hb,hF⟩:=F w mg fa _ KX G.T.g hmg
 exact a5g KX G.T.g G.T.b G.T.builtins G.T.nolimit hg hobj hints (Ax hlen hn2) hr hF hb (fun H hO hS=>hsp w H a ns hlen hO hS) fun H e s'=>hCX w H s₁ e s'
end L2
/- THE LAST THEOREM (shape;LID,My.* are yours):
  My.Adr: a structure of the addresses that your layer names (classes,functions);My.Txt K t: a structure (Prop) of the equations over K;
  My.txt_mk:{K} {implicit addresses ..} (e1:nsIn K mainGlobals "law" = some (some (.ref f))) (e2:K.lookup f=some ⟨oc,od,.func (fnOf "law" "law" params body scope dV kV doc pm an cdv ct),sl⟩) (e3:codeIn K cdv "law" = true) .. : ∃t,My.Txt K t
(the tactic k_is has no namespace: write k_is) -/
namespace L2
open PySem PySem.Spec PyProof.Rows
noncomputable def dh (s:Stmt) (j:Nat):Stmt:=match s with
 | .ClassDef _ _ _ body _ _ _ _ _ _ _=>body.getD j (.Pass ⟨0,0,0,0⟩)
 | _=>.Pass ⟨0,0,0,0⟩
noncomputable def jq (s:Stmt):Arguments:=match s with
 | .FunctionDef _ a _ _ _ _ _ _ _ _=>a
 | _=>{ posonlyargs:=[],args:=[],vararg:=none,kwonlyargs:=[],kw_defaults:=[],kwarg:=none,defaults:=[] }
noncomputable def i4 (s:Stmt):List Stmt:=match s with
 | .FunctionDef _ _ b _ _ _ _ _ _ _=>b
 | _=>[]
noncomputable def au (s:Stmt):Scope:=match s with
 | .FunctionDef _ _ _ _ _ _ sc _ _ _=>sc
 | _=>{ kind:=.function,names:=[],isGenerator:=false,isCoroutine:=false }
abbrev CX0:CXT:=fun _ _ _ _ _ _=>False
abbrev E0:XK:=fun _ _ _=>False
theorem ap {X:Cx}:fw CX0 X E0:=fun _ _ _ _ _ _ _ h=>h.elim
structure Fun (K:Ab) (x qual:Str) (st:Stmt) (f:Addr) (fd:FuncData):Prop where
 ex:∃(oc:Value) (od:Option Addr) (kV doc pm:Value) (an:Option Addr) (cdv ct:Value) (osl:Array (Option Value)),
   fd=Dq x qual (jq st) (i4 st) (au st) .none kV doc pm an cdv ct/\K.lookup f=some ⟨oc,od,.func fd,osl⟩/\Gs K cdv qual=true
 kp:Cq K (.ref f)=true
section
variable {P:Program}{w:World}{K:Ab}{mg:Str->Option Value}{base:Heap}
theorem Fun.ok {x qual:Str}{st:Stmt}{f:Addr}{fd:FuncData}{N ps:List Str}{k:Nat}{sp:Sp}(F:Fun K x qual st f fd) (S:FnScope N ps (au st)) (len:∀vs H Q E,sp vs H Q E->vs.length=ps.length)
   (hbody:∀(cdv:Value) (A:Around) (outer:List Env) (s:Shared) (H:Hp) (vs:List V) (Q:VK) (E:XK),Room k (A.deeper (envOfC qual (au st) s.heap.objs.size f cdv))->sp vs H Q E->
     ∃t,PSs (cxOf CX0 P w K mg base N qual (au st) f cdv A outer s H E).nox (i4 st) t/\t { nx:=fun _ H'=>Q .non H',rt:=Q } (start N vs) H):FnOk P w K mg base CX0 (k+1) f fd ps sp:=by
 obtain⟨oc,od,kV,doc,pm,an,cdv,ct,osl,rfl,lk,hcd⟩:=F.ex
 refine aas lk hcd S len fun A outer s H vs Q E hr hsp=>?_
 obtain⟨t,h,q⟩:=hbody cdv A outer s H vs Q E hr hsp
 exact⟨t,h.nox,q⟩
theorem Fun.binds {x qual:Str}{st:Stmt}{f:Addr}{fd:FuncData}{ps:List Str}(F:Fun K x qual st f fd)
   (h:∀(kV doc pm:Value) (an:Option Addr) (cdv ct:Value) (us:List Value),us.length=ps.length->bindArgs (Dq x qual (jq st) (i4 st) (au st) .none kV doc pm an cdv ct) ⟨us,[]⟩=pure (ps.zip us)):Binds K fd ps []:=by
 obtain⟨oc,od,kV,doc,pm,an,cdv,ct,osl,rfl,lk,hcd⟩:=F.ex
 exact .all (h kV doc pm an cdv ct)
theorem fun_mk {x qual:Str}{st:Stmt}{f:Addr}{oc:Value}{od an:Option Addr}{osl:Array (Option Value)}{kV doc pm cdv ct:Value}(l:K.lookup f=some ⟨oc,od,.func (Dq x qual (jq st) (i4 st) (au st) .none kV doc pm an cdv ct),osl⟩)
   (c:Gs K cdv qual=true) (k:Cq K (.ref f)=true):Fun K x qual st f (Dq x qual (jq st) (i4 st) (au st) .none kV doc pm an cdv ct):=⟨⟨oc,od,kV,doc,pm,an,cdv,ct,osl,rfl,l,c⟩,k⟩
end
theorem dn {A:Around}{k:Nat}(hr:Room k A):A.units+1<cLine:=Bs (Ho (by decide:1<=64) _) hr.units
theorem fk {n:Nat}(h:n<=1000):n<sizeLine:=Bs h (by decide)
section
variable {X:Cx}
theorem pv (i:Nat) {x:Str}{pos:Pos}(hN:X.N[i]? = some x:=by rfl) (hv:Vis X.env.scope x:=by first|exact Or.inl rfl|exact Or.inr (Or.inl rfl)|exact Or.inr (Or.inr rfl)) (hd:(x == ("__debug__" : Str))=false:=by decide)
   (hcd:(x == ("__classdict__" : Str))=false:=by decide):PE X (.Name x pos) (tVar i):=aaf hN hv hd hcd
end
noncomputable def Same (H H':Hp):Prop:=∀b o,H b=some o->H' b=some o
theorem Same.refl (H:Hp):Same H H:=fun _ _ h=>h
theorem Same.trans {H H1 H2:Hp}(a:Same H H1) (b:Same H1 H2):Same H H2:=fun c o h=>b c o (a c o h)
theorem Same.free {H H':Hp}(e:Same H H') {l:Addr}(h:H' l=Option.none):H l=Option.none:=by
 cases q:H l with
 | none=>rfl
 | some o =>
   rw[e l o q] at h
   cases h
theorem Same.seq {K:Ab}{H H':Hp}{a:Addr}{xs:List V}(e:Same H H') (h:SqL K H a xs):SqL K H' a xs:=by
 rcases h with (h|⟨o,h⟩)|h
 . exact .inl (.inl (e _ _ h))
 . exact .inl (.inr ⟨o,e _ _ h⟩)
 . exact .inr h
set_option maxHeartbeats 16000000
noncomputable def blk (X:Cx) (N:List Str) (s:Shared) (H:Hp) (sc:Scope) (cl:List (Str×Addr)) (C:Addr) (ex:List Addr):Cx where
 prog:=X.prog
 w:=X.w
 K:=X.K
 mg:=X.mg
 base:=X.base
 A:=X.A
 N:=N
 s₀:=s
 H₀:=H
 env:=compEnvC sc cl C X.env
 outer:=X.stack
 stack:=X.stack
 ex:=ex
 fn:=fun _=>false
 calm:=X.calm
 pn:=[]
 xe:=fun _ _=>False
section
variable {prog:Program}{w:World}{A:Around}{R:Result->Shared->Prop}{s:Shared}
theorem p5 {elt target iter:Expr}{ifs:List Expr}{scope:Scope}{pos:Pos}{it acc:Value}{env:Env}(I:Nat->Shared->Prop)
   (turn:∀n s,I n s->wpAny (model prog w) A (pyNext it) (fun r s₁=>match r with
     | none=>R (.ok .next) s₁
     | some v=>wpAny (model prog w) A (letOwnedTupleGo target it v) (fun _ s₁'=>wpAny (model prog w) A (assign target env v) (fun _ s₂ =>
         wpAny (model prog w) A (forIn ifs true fun c r=>if r=true then do let ok<-isTrue c env (eval c env);pure (ForInStep.yield ok) else pure (ForInStep.yield r)) (fun ok s₃ =>
           if ok=true then wpAny (model prog w) A (eval elt env) (fun x s₄ =>
             wpAny (model prog w) A (call (.builtin "list.append") [acc,x]) (fun _ s₅=>∃m,m<n/\I m s₅) (fun _ _=>False) s₄) (fun _ _=>False) s₃
           else ∃m,m<n/\I m s₃) (fun _ _=>False) s₂) (fun _ _=>False) s₁') (fun _ _=>False) s₁) (fun _ _=>False) s)
   (n:Nat) (h:I n s) :
   codeAny (model prog w) A (.compLoop (.ListComp elt [⟨target,iter,ifs,0⟩] scope pos) 0 it acc env) R s:=by
 refine codeAny_loop rfl I (fun n s hI=>?_) n h
 show wpAny _ A ((compTurn (.ListComp elt [⟨target,iter,ifs,0⟩] scope pos) 0 it acc env).onRaise (fun x=>do noteFrame x env;theTreesLotGoes x)) _ _ s
 refine wpAny_noted ?_
 rw[compTurn_list]
 refine Aa (EZ (Aa (BR (turn n s hI) (fun r s₁ h₁=>?_) fun _ _ h'=>h'.elim)))
 cases r with
 | none=>exact Ae h₁
 | some v =>
   refine Aa (BR h₁ (fun _ s₁' h₁'=>?_) fun _ _ h'=>h'.elim)
   refine Aa (BR h₁' (fun _ s₂ h₂=>Aa (BR h₂ (fun ok s₃ h₃=>?_) fun _ _ h'=>h'.elim)) fun _ _ h'=>h'.elim)
   cases ok with
   | false=>exact Ae ⟨rfl,h₃⟩
   | true =>
     exact Aa (Aa (BR h₃ (fun x s₄ h₄=>Aa (BR h₄ (fun _ s₅ h₅=>Ae (Ae ⟨rfl,h₅⟩)) fun _ _ h'=>h'.elim)) fun _ _ h'=>h'.elim))
end
noncomputable def PTs (X:Cx) (ifs:List Expr) (t:TT):Prop :=
 ∀(pins:List (Addr×Obj)) (s:Shared) (σ:St) (H:Hp) (Q:Bool->Hp->Prop),Inv X pins σ H s->t σ H Q->
   wpAny (model X.prog X.w) X.A (forIn ifs true fun c r=>if r=true then do let ok<-isTrue c X.env (eval c X.env);pure (ForInStep.yield ok) else pure (ForInStep.yield r)) (TP X pins σ Q) X.xe s
noncomputable def tYes:TT:=fun _ H Q=>Q true H
theorem ze {X:Cx}:PTs X [] tYes:=fun _ _ _ H _ I h=>wpAny_tests_nil ⟨H,I,h⟩
theorem yr {X:Cx}{c:Expr}{t:TT}(h:PT X c t):PTs X [c] t:=fun pins s σ H Q I q=>wpAny_tests_one (h pins s σ H Q I q)
noncomputable def bz (σ:St) (ix:List Nat):St:=ix.map fun j=>(σ[j]?).getD none
noncomputable def lu (J:It) (H1:Hp) (σ:St) (ix:List Nat) (tc:TT) (te:TE) (Q:VK):Prop:=∀D,H1 D=none->
 ∃W:Nat->Nat->Hp->Prop,(∃m,W 0 m (upd H1 D (.lst [])))/\∀i m H,W i m H->
   (J.stop i H/\Q (.ref D) H)\/(J.go i H/\∀x H',J.yld i H x H'->tc (some x::bz σ ix) H' fun b H2 =>
     if b=true then te (some x::bz σ ix) H2 fun y H3=>∃ys,H3 D=some (.lst ys)/\ys.length<sizeLine/\∃m',m'<m/\W (i+1) m' (upd H3 D (.lst (ys++[y])))
     else ∃m',m'<m/\W (i+1) m' H2)
noncomputable def qu (ix:List Nat) (wi:TI) (tc:TT) (te:TE):TE:=fun σ H Q=>wi σ H fun J H1=>lu J H1 σ ix tc te Q
section
variable {X:Cx}
theorem a8j {pins:List (Addr×Obj)}{σ:St}{H:Hp}{s:Shared}{N:List Str}{x:Str}{sc:Scope}{cl:List (Str×Addr)}{fp:List Addr}{ix:List Nat}{h1:Heap}{m:Str->Option Value}{tk:Nat}
   (I:Inv X pins σ H s) (hkind:sc.kind=.function) (hN:N=x::ix.map fun j=>(X.N[j]?).getD "")
   (hsub:∀y c,cl.lookup y=some c->X.env.cells.lookup y=some c) (hhas:∀y,((relabel sc X.env).names.lookup y=some .cell\/(relabel sc X.env).names.lookup y=some .free)->∃c,cl.lookup y=some c)
   (hix:∀j∈ix,∃y,X.N[j]? = some y/\X.env.kindOf y=some .cell/\(relabel sc X.env).names.lookup y=some .cell)
   (hfp:∀b∈fp,FpOk X pins H b) (hlt:∀b∈fp,b<s.heap.objs.size)
   (hns:h1.Ns s.heap.objs.size m) (hk:∀b o,s.heap.get? b=some o->h1.get? b=some o) :
   Inv (blk X N s H sc cl s.heap.objs.size fp) [] (none::bz σ ix) H { s with heap:=h1,toks:=tk }:=by
 have fresh:H s.heap.objs.size=none:=I.hok.fresh (Ah _)
 refine⟨⟨I.ok.mod,hkind,I.ok.glob,I.ok.blt,Ah _,fun y z c h1 h2=>I.ok.inj y z c (hsub y c h1) (hsub z c h2),fun y hy=>hhas y hy,fun y c z _=>absurd (show false=true from z) (by decide),I.ok.hd,I.ok.frames,.inl rfl,
   fun b hb=>⟨Az (hlt b hb),fun y c e=>(hfp b hb).2.2.2.2.1 y c (hsub y c e)⟩,I.bs,Ax I.ok.bsz I.sz,fun b o e hb=>?_,fun b hb z=>?_,I.stack,I.stkFree⟩,
   rfl,I.bare,Un.kept hk,⟨m,hns,fun i y v e1 e2 e3=>?_⟩,fun y c e=>?_,fresh,fun y c e=>I.freeC y c (hsub y c e),fun p hp=>absurd (show p∈([]:List (Addr×Obj)) from hp) (by simp),I.hok.kept hk,?_⟩
 . rcases (hfp b hb).2.2.2.1 with z|z
   . exact I.ok.noex b o e z
   . exact absurd (AC (Ap e) (Ax I.ok.bsz z)) (Bi _)
 . rcases Al.mp (I.stkSub b z) with q|q
   . exact (hfp b hb).2.1 q
   . exact (hfp b hb).2.2.1 q
 . cases i with
   | zero =>
     have e2':(some none:Option (Option V))=some (some v):=e2
     cases e2'
   | succ i =>
     have e2':(bz σ ix)[i]? = some (some v):=by simpa using e2
     unfold bz at e2'
     rw[Ak] at e2'
     cases q:ix[i]? with
     | none=>rw[q] at e2';cases e2'
     | some j =>
       rw[q] at e2'
       have e3':(σ[j]?).getD none=some v:=by simpa using e2'
       have e4:σ[j]? = some (some v):=by
         cases q2:σ[j]? with
         | none=>rw[q2] at e3';cases e3'
         | some w=>rw[q2] at e3';simpa using e3'
       obtain⟨y',hy,hc,hr⟩:=hix j (AQ q)
       have ey:y'=y:=by
         have e1':N[i+1]? = some y:=e1
         rw[hN,DV,Ak,q] at e1'
         have:=Av e1'
         simpa [hy] using this
       subst ey
       obtain⟨m0,hn0,hl0⟩:=I.loc
       obtain⟨u,r,l⟩:=hl0 j y' v hy e4 (.inr (.inl hc))
       refine⟨u,r,.inr ⟨.inl hr,?_⟩⟩
       rcases l with⟨k,_⟩|⟨_,c,ec,ic⟩
       . rw[hc] at k;cases k
       . obtain⟨c',ec'⟩:=hhas y' (.inl hr)
         have:=hsub y' c' ec'
         rw[ec] at this;cases this
         obtain⟨o,ho,hd⟩:=ic
         exact⟨c,ec',o,hk c o ho,hd⟩
 . obtain⟨v,o,ho,hd⟩:=I.cell y c (hsub y c e)
   exact⟨v,o,hk c o ho,hd⟩
 . show (none::bz σ ix).length=N.length
   rw[hN]
   simp[bz]
theorem a2f {elt iter:Expr}{x:Str}{px pos p0:Pos}{ifs:List Expr}{sc:Scope}{cl:List (Str×Addr)}{ix:List Nat}{wi:TI}{tc:TT}{te:TE}(N:List Str)
   (hc:X.calm=true) (hi:PI X (.Name x px) iter wi) (hif:∀s H C ex,PTs (blk X N s H sc cl C ex) ifs tc) (he:∀s H C ex,PE (blk X N s H sc cl C ex) elt te)
   (hkind:sc.kind=.function) (hN:N=x::ix.map fun j=>(X.N[j]?).getD "") (hnd:N.Nodup) (hx:sc.names.lookup x=some .local)
   (hcl:closureFor sc X.env=pure cl) (hcell:∀y∈sc.names,y.2≠.cell) (hnames:∀y∈sc.names,y.2=.local->sc.names.lookup y.1=some .local)
   (hsub:∀y c,cl.lookup y=some c->X.env.cells.lookup y=some c) (hhas:∀y,((relabel sc X.env).names.lookup y=some .cell\/(relabel sc X.env).names.lookup y=some .free)->∃c,cl.lookup y=some c)
   (hix:∀j∈ix,∃y,X.N[j]? = some y/\X.env.kindOf y=some .cell/\(relabel sc X.env).names.lookup y=some .cell)
   (hs:∀x,foldedSetIterable iter X.env x=pure x)
   {use:Option (Value->Sem Unit)} {RP:Value->Shared->Prop} {Q:VK} {pins:List (Addr×Obj)} {s:Shared} {σ:St} {H:Hp} (I:Inv X pins σ H s) (h:qu ix wi tc te σ H Q)
   (hfin:∀(D C:Addr) (s6:Shared) (H5:Hp) (mm:Str->Option Value),Inv X pins σ H5 s6->s6.heap.Ns C mm->H5 C=none->C≠X.env.locals->(∀z c,X.env.cells.lookup z=some c->c≠C)->X.s₀.heap.objs.size<=C->(∀p∈X.pn++pins,p.1≠C)->Q (.ref D) H5->compPost (model X.prog X.w) X.A X.xe use RP (.ref D) C (.ok .next) s6) :
   wpAny (model X.prog X.w) X.A (comprehension (.ListComp elt [⟨.Name x px,iter,ifs,0⟩] sc pos) sc X.env p0 (newList []) false (eval iter X.env) use) RP X.xe s:=by
 refine Fx (use:=use) rfl hs hcl hkind hnames (thn (hi pins s σ H _ I h) fun v s1 h1=>thn h1 fun itv s2 h2=>?_)
 obtain⟨it,fp,tn,J,H2,e,I2,T,st2,f2,q2⟩:=h2
 subst e
 have fr2:H2 s2.heap.objs.size=none:=I2.hok.fresh (Ah _)
 obtain⟨W,⟨m0,w0⟩,turn⟩:=q2 s2.heap.objs.size fr2
 refine AL ?_
 have I3:Inv X pins σ (upd H2 s2.heap.objs.size (.lst [])) { s2 with heap:=s2.heap.push { cls:=.type "list",dict:=none,data:=.seq ([]:List Value).toArray } }:=by
   exact I2.lnew (its:=[]) (ys:=[]) (t':=s2.toks) .nil (AG _)
 have lt2:∀b∈fp,b<s2.heap.objs.size:=fun b hb=>by
   obtain⟨o,ho,_⟩:=T.obj _ _ st2 b hb
   exact Ap ho
 have f3:∀b∈fp,FpOk X pins (upd H2 s2.heap.objs.size (.lst [])) b:=fun b hb=>⟨by rw[ah (Az (lt2 b hb))];exact (f2 b hb).1,(f2 b hb).2⟩
 generalize hs3:({ s2 with heap:=s2.heap.push { cls:=.type "list",dict:=none,data:=.seq ([]:List Value).toArray } }:Shared)=s3 at I3
 have hsz3:s2.heap.objs.size<=s3.heap.objs.size:=by rw[<- hs3];show _<=(s2.heap.push _).objs.size;rw[Bg];exact CD _
 have tn3:tn 0 s3.heap:=T.keep _ _ _ st2 fun b _ o e=>by rw[<- hs3];exact Ad _ e
 have lt3:∀b∈fp,b<s3.heap.objs.size:=fun b hb=>AC (lt2 b hb) hsz3
 refine He hcell (by intro y hy;simp at hy) (fun h4 hns4 hsb4=>?_) hkind
 have old:∀b o,s3.heap.get? b=some o->h4.get? b=some o:=fun b o e=>hsb4.extBut b o (Az (Ap e)) (Ad _ e)
 have I4:=a8j (m:=_) (tk:=s3.toks+([]:List (Str×Value)).length) (N:=N) I3 hkind hN hsub hhas hix f3 lt3 hns4 old
 have tn4:tn 0 h4:=T.keep _ _ _ tn3 fun b _ o e=>old b o e
 have fpB:∀{H':Hp},(∀b∈fp,H' b=none)->∀b∈fp,FpOk (blk X N s3 (upd H2 s2.heap.objs.size (.lst [])) sc cl s3.heap.objs.size fp) [] H' b:=fun {H'} hn b hb =>
   ⟨hn b hb,Az (lt3 b hb),I4.ok.exfs b hb,.inl hb,fun y c e=>(I4.ok.exf b hb).2 y c e,fun p hp=>absurd (show p∈([]:List (Addr×Obj)) from hp) (by simp)⟩
 have loop:codeAny (model X.prog X.w) X.A (.compLoop (.ListComp elt [⟨.Name x px,iter,ifs,0⟩] sc pos) 0 (.ref it) (.ref s2.heap.objs.size) (compEnvC sc cl s3.heap.objs.size X.env))
     (compPost (model X.prog X.w) X.A X.xe use RP (.ref s2.heap.objs.size) s3.heap.objs.size) { s3 with heap:=h4,toks:=s3.toks+([]:List (Str×Value)).length }:=by
   refine p5 (fun n s'=>∃i v0 H',Inv (blk X N s3 (upd H2 s2.heap.objs.size (.lst [])) sc cl s3.heap.objs.size fp) [] (v0::bz σ ix) H' s'/\tn i s'.heap/\(∀b∈fp,H' b=none)/\W i n H') ?_ m0
     ⟨0,none,_,I4,tn4,fun b hb=>(f3 b hb).1,w0⟩
   rintro n s5 ⟨i,v0,H5,I5,st5,fr5,w5⟩
   rcases turn i n H5 w5 with⟨stop,qn⟩|⟨go,step⟩
   . refine thn (T.done (blk X N s3 (upd H2 s2.heap.objs.size (.lst [])) sc cl s3.heap.objs.size fp) rfl rfl rfl hc i [] s5 _ H5 _ I5 (fpB fr5) st5 stop) fun r s6 ⟨hr,I6⟩=>?_
     subst hr
     obtain⟨mm,hm,_⟩:=I6.loc
     have I7:Inv X pins σ H5 s6:=by
       have hC:H5 s3.heap.objs.size=none:=I6.free
       have hc3:s3.heap.get? s3.heap.objs.size=none:=Ep (Ah _)
       have up:∀b o,b≠s3.heap.objs.size->s6.heap.get? b=some o->s6.heap.get? b=some o:=fun b o hb e=>e
       have neC:∀b o,s3.heap.get? b=some o->b≠s3.heap.objs.size:=fun b o e=>Az (Ap e)
       have u:=I6.base
       refine I3.call' (s':=s6) (ch:=fp) I6.os ⟨fun b o e n hb hx=>?_,fun b o e n hb hx=>?_,fun b o e n hx=>u.free b o e n hx,fun b o e hx=>?_,u.tups,u.frzs,u.tbls⟩ (fun b o e=>?_) I6.bare fun b hb=>⟨(f3 b hb).2.2.2.1,(f3 b hb).2.1,(f3 b hb).2.2.2.2.1,(f3 b hb).2.2.2.2.2⟩
       . exact up b o (neC b o e) (u.keep b o e n hb hx)
       . obtain⟨sl,e1⟩:=u.slot b o e n hb hx
         exact⟨sl,up b _ (neC b o e) e1⟩
       . obtain⟨o',e1⟩:=u.there b o e hx
         exact⟨o',up b _ (neC b o e) e1⟩
       . refine (I6.hok b o e).stay (fun c v hc' q=>up c v ?_ q) (fun _ q=>q) fun _ _ q=>q
         rintro rfl
         rcases hc' with z|z
         . rw[<- z,hC] at e;cases e
         . rw[hC] at z;cases z
     have hCn:H5 s3.heap.objs.size=none:=I6.free
     have hCl:s3.heap.objs.size≠X.env.locals:=Ck I3.lt
     have hCc:∀z c,X.env.cells.lookup z=some c->c≠s3.heap.objs.size:=fun z c e e2=>by
       obtain⟨v',q⟩:=I3.cell z c e
       exact absurd (e2 ▸ q.lt) (Bi _)
     exact hfin _ _ s6 H5 mm I7 hm hCn hCl hCc I3.sz (fun p hp e2=>absurd (e2 ▸ Ap (I3.pin p hp).1) (Bi _)) qn
   . refine thn (T.item (blk X N s3 (upd H2 s2.heap.objs.size (.lst [])) sc cl s3.heap.objs.size fp) rfl rfl rfl hc i [] s5 _ H5 _ I5 (fpB fr5) st5 go) fun r s6 ⟨u,hr,h6⟩=>?_
     subst hr
     refine thn h6 fun _ s7 ⟨y,H7,I7,r7,y7,st7,fr7⟩=>?_
     have I7':=I7.pinned (fpB fr7) (T.obj _ _ st7)
     refine HK (qg (i:=0) I7' hnd (by show N[0]? = some x;rw[hN];rfl) (.inl (Cu hx)) r7 (fun s8 I8=>?_) (.inr (Cu hx)))
     have I8':Inv (blk X N s3 (upd H2 s2.heap.objs.size (.lst [])) sc cl s3.heap.objs.size fp) ([]++iq fp s7.heap) (some y::bz σ ix) H7 s8:=I8
     refine thn (hif _ _ _ _ _ s8 _ H7 _ I8' (step y H7 y7)) fun ok s9 ⟨H9,I9,q9⟩=>?_
     have again:∀{H':Hp} {s':Shared} {m':Nat},Inv (blk X N s3 (upd H2 s2.heap.objs.size (.lst [])) sc cl s3.heap.objs.size fp) ([]++iq fp s7.heap) (some y::bz σ ix) H' s'->m'<n->W (i+1) m' H'->
         ∃m,m<n/\∃i v0 H',Inv (blk X N s3 (upd H2 s2.heap.objs.size (.lst [])) sc cl s3.heap.objs.size fp) [] (v0::bz σ ix) H' s'/\tn i s'.heap/\(∀b∈fp,H' b=none)/\W i m H':=fun {H' s' m'} Ia hm wa=>by
       refine⟨m',hm,i+1,some y,H',Ia.unpinned,T.keep _ _ _ st7 fun b hb o e=>(Ia.pin (b,o) (AE _ (AE _ (fz hb e)))).1,fun b hb=>?_,wa⟩
       obtain⟨o,e,d⟩:=T.obj _ _ st7 b hb
       exact (Ia.pin (b,o) (AE _ (AE _ (fz hb e)))).2.1
     cases ok with
     | false =>
       rw[if_neg Af] at q9 |-
       obtain⟨m',hm,wa⟩:=q9
       exact again I9 hm wa
     | true =>
       rw[if_pos rfl] at q9 |-
       refine thn (he _ _ _ _ _ s9 _ H9 _ I9 q9) fun v10 s10 ⟨z,H10,I10,r10,ys,hD,hl,m',hm,wa⟩=>?_
       exact thn (em _ s10 _ H10 (.ref s2.heap.objs.size) [z] (.ref s2.heap.objs.size) [v10] (fun _ H'=>H'=upd H10 s2.heap.objs.size (.lst (ys++[z]))) I10 rfl (.cons r10 .nil) ⟨_,ys,z,rfl,rfl,hD,hl,rfl⟩)
         fun _ s11 ⟨_,H11,I11,_,e11⟩=>again I11 hm (by rw[e11];exact wa)
 subst hs3
 exact Gg loop (T.self _ 0 _ _ _ tn4 loop)
theorem yx {elt iter:Expr}{x:Str}{px pos:Pos}{ifs:List Expr}{sc:Scope}{cl:List (Str×Addr)}{ix:List Nat}{wi:TI}{tc:TT}{te:TE}(N:List Str)
   (hc:X.calm=true) (hi:PI X (.Name x px) iter wi) (hif:∀s H C ex,PTs (blk X N s H sc cl C ex) ifs tc) (he:∀s H C ex,PE (blk X N s H sc cl C ex) elt te)
   (hkind:sc.kind=.function) (hN:N=x::ix.map fun j=>(X.N[j]?).getD "") (hnd:N.Nodup) (hx:sc.names.lookup x=some .local)
   (hcl:closureFor sc X.env=pure cl) (hcell:∀y∈sc.names,y.2≠.cell) (hnames:∀y∈sc.names,y.2=.local->sc.names.lookup y.1=some .local)
   (hsub:∀y c,cl.lookup y=some c->X.env.cells.lookup y=some c) (hhas:∀y,((relabel sc X.env).names.lookup y=some .cell\/(relabel sc X.env).names.lookup y=some .free)->∃c,cl.lookup y=some c)
   (hix:∀j∈ix,∃y,X.N[j]? = some y/\X.env.kindOf y=some .cell/\(relabel sc X.env).names.lookup y=some .cell)
   (hs:∀x,foldedSetIterable iter X.env x=pure x:=by intro _;rfl) :
   PE X (.ListComp elt [⟨.Name x px,iter,ifs,0⟩] sc pos) (qu ix wi tc te):=by
 intro pins s σ H Q I h
 rw[eval_ListComp]
 exact a2f N hc hi hif he hkind hN hnd hx hcl hcell hnames hsub hhas hix hs I h fun D C s6 H5 mm I7 hm hCn hCl hCc hsz hpin qn =>
   ⟨mm,hm,fun h7 sb7=>⟨.ref D,H5,I7.turned (t':=s6.toks) (it:=C) (fun b o hb e=>sb7.extBut b o hb e) hCn hCl (.inr hsz) hCc hpin,rfl,qn⟩⟩
end
noncomputable def Its (x:Str):It:=⟨fun i _=>i<x.cps.size,fun i H v H'=>H'=H/\∃c,x.cps[i]? = some c/\v=.str ⟨#[c]⟩,fun i _=>x.cps.size<=i⟩
theorem a5j {P:Program}{w:World}{K:Ab}{tg:Expr}{x:Str}{t:Tok}(it:Addr) (T:String) (hT:T = "str_ascii_iterator" \/ T = "str_iterator"):Turn P w K tg (Its x) [it] it (fun i h=>h.IsStrIter it T x t i/\i<=x.cps.size) where
 mem:=by simp
 obj:=fun i h st b hb=>by
   have e:b=it:=by simpa using hb
   subst e
   obtain⟨⟨o,e,c,d⟩,_⟩:=st
   exact⟨o,e,fun v z=>by rw[d] at z;cases z⟩
 keep:=fun i h h' st k=>⟨let ⟨o,ho,r⟩:=st.1;⟨o,k it (by simp) o ho,r⟩,st.2⟩
 item:=by
   intro X hP hw hK hc i pins s σ H E I hf st hg
   subst hP hw hK
   obtain⟨f0,f1,f2,f3,f4,f5⟩:=hf it (by simp)
   have hi:i<x.cps.size:=hg
   have fin:∀h',h'.IsStrIter it T x t (i+1)->(∀b o,b≠it->s.heap.get? b=some o->h'.get? b=some o)->∀u:Tok,∃uv,some (Value.str ⟨#[x.cps[i]]⟩ u)=some uv/\
       wpAny (model X.prog X.w) X.A (letOwnedTupleGo tg (.ref it) uv) (fun _ s2=>∃v H',Inv X pins σ H' s2/\RelV v uv/\(Its x).yld i H v H'/\(s2.heap.IsStrIter it T x t (i+1)/\i+1<=x.cps.size)/\∀b∈[it],H' b=none) E { s with heap:=h',toks:=s.toks+1 }:=fun h' st' kk u=>by
     have I1:Inv X pins σ H { s with heap:=h',toks:=s.toks+1 }:=I.turned (fun b o hb e=>kk b o hb e) f0 f1 f3 f4 f5
     obtain⟨o,e,c,d⟩:=id st'
     refine⟨_,rfl,qp (s:={ s with heap:=h',toks:=s.toks+1 }) e c d (by rcases hT with rfl|rfl<;>decide) ⟨.str ⟨#[x.cps[i]]⟩,H,I1,⟨u,rfl⟩,⟨rfl,_,by simp[hi],rfl⟩,⟨st',hi⟩,fun b hb=>?_⟩⟩
     exact (hf b hb).1
   rcases hT with rfl|rfl
   . exact wpAny_pyNext_ascii_item st.1 (c:=x.cps[i]) (by simp[hi]) fun h' hit' hs'=>fin h' hit' (fun b o hb e=>hs'.extBut b o hb e) _
   . exact wpAny_pyNext_wide_item st.1 (c:=x.cps[i]) (by simp[hi]) fun h' hit' hs'=>fin h' hit' (fun b o hb e=>hs'.extBut b o hb e) _
 done:=by
   intro X hP hw hK hc i pins s σ H E I hf st hg
   subst hP hw hK
   obtain⟨f0,f1,f2,f3,f4,f5⟩:=hf it (by simp)
   have hi:x.cps.size<=i:=hg
   rcases hT with rfl|rfl
   . exact wpAny_pyNext_ascii_end (I.ok.hd hc) st.1 (by simp;omega) fun h' eb=>⟨rfl,I.turned (t':=s.toks) (fun b o hb e=>eb b o hb e) f0 f1 f3 f4 f5⟩
   . exact wpAny_pyNext_wide_end (I.ok.hd hc) st.1 (by simp;omega) fun h' eb=>⟨rfl,I.turned (t':=s.toks) (fun b o hb e=>eb b o hb e) f0 f1 f3 f4 f5⟩
 self:=fun _ _ _ _ _ st h=>by
   rcases hT with rfl|rfl
   . exact wpAny_pyIter_striter_ascii st.1 h
   . exact wpAny_pyIter_striter_wide st.1 h
section
variable {X:Cx}{tg:Expr}
noncomputable def iStr (tl:TE):TI:=fun σ H R=>tl σ H fun x H1=>∃z,x=.str z/\R (Its z) H1
theorem a9h {l:Expr}{tl:TE}(hl:PE X l tl):PI X tg l (iStr tl):=by
 intro pins s σ H R I h
 refine thn (hl pins s σ H _ I h) fun v s1 ⟨x,H1,I1,r1,q1⟩=>?_
 obtain⟨z,e,q⟩:=q1
 subst e
 obtain⟨t,rfl⟩:=r1
 have fin:∀(o:Obj) (T:String),(T = "str_ascii_iterator" \/ T = "str_iterator")->(s1.heap.push o).IsStrIter s1.heap.objs.size T z t 0->PIE X pins σ tg R (.ref s1.heap.objs.size) { s1 with heap:=s1.heap.push o }:=fun o T hT hs=>by
   refine⟨s1.heap.objs.size,[s1.heap.objs.size],_,_,H1,rfl,I1.kept (t':=s1.toks) fun b o e=>Ad _ e,a5j (x:=z) (t:=t) _ T hT,⟨hs,AG _⟩,fun b hb=>?_,q⟩
   have e:b=s1.heap.objs.size:=by simpa using hb
   subst e
   exact I1.fpOk (Ah _) (I1.hok.fresh (Ah _))
 cases ha:z.cps.all (· < 128)
 . exact wpAny_pyIter_wide ha (fin _ _ (.inr rfl) ⟨_,An _ rfl,rfl,rfl⟩)
 . exact wpAny_pyIter_ascii ha (fin _ _ (.inl rfl) ⟨_,An _ rfl,rfl,rfl⟩)
theorem a65 (hc:X.calm=true):cy X (.builtin "all") (fun xs H Q=>∃(a:Addr) (bs:List Bool),xs=[.ref a]/\SqL X.K H a (bs.map V.bl)/\Q (.bl (bs.all id)) H):=by
 intro pins s σ H xs us Q I r h
 obtain⟨a,bs,rfl,hq,q⟩:=h
 obtain⟨u,rfl,ru⟩:=r.one
 cases ru
 obtain⟨its,rv,p,hz⟩:=I.list hq
 have hlt:a<s.heap.objs.size:=by obtain⟨o,n,e,_⟩:=p;exact Ap e
 refine call_all_walk (CQ p.isList ?_)
 have len:bs.length=its.length:=by have:=rv.length;simpa using this
 refine⟨s.heap.objs.size,_,_,_,_,_,fun i=>(bs[i]?).getD false,rfl,Iu (A:=X.A.in1) (show X.A.in1.handled=none from I.ok.hd hc) s.heap.objs.size a (Az hlt) its.toArray,⟨⟨_,An _ rfl,rfl,rfl⟩,p.isList.at fun o e=>Ad _ e⟩,?_,?_⟩
 . intro i v s' Q' E' hv hQ
   have hv':its[i]? = some v:=by simpa using hv
   cases hb:bs[i]? with
   | none =>
     have h1:=List.getElem?_eq_none_iff.mp hb
     have h2:=(Aq.mp hv').1
     omega
   | some b =>
     obtain⟨u,hu,ru⟩:=rv.get (i:=i) (x:=V.bl b) (by rw[Ak,hb]<;>rfl)
     rw[hv'] at hu
     cases hu
     cases ru
     simp only[hb,Fy] at hQ
     exact BH hQ
 . intro h' tk hk
   have e:(Du its.toArray.size).all (fun i=>(bs[i]?).getD false)=bs.all id:=by
     rw[Ar,<- len]
     rw[BY]
     simp only[Dc,List.mem_range,id]
     constructor
     . intro h b hb
       obtain⟨i,hi,e⟩:=List.mem_iff_getElem.mp hb
       have:=h i hi
       rw[Ai hi,Fy,e] at this
       exact this
     . intro h i hi
       rw[Ai hi,Fy]
       exact h _ (De hi)
   have fr:FpOk X pins H s.heap.objs.size:=I.fpOk (Ah _) (I.hok.fresh (Ah _))
   refine⟨.bl (bs.all id),H,?_,by rw[e];rfl,q⟩
   have I1:Inv X pins σ H { s with heap:=h',toks:=tk }:=I.kept (h':=h') (t':=tk) fun b o e=>hk b o (fun z=>by
     have:b=s.heap.objs.size:=by simpa using z
     exact absurd (Ap e) (by rw[this];exact Bi _)) (Ad _ e)
   exact I1
theorem uo:cy X (.builtin "isinstance") (fun xs H Q=>∃a ys,xs=[.ref a,.ty "list"]/\SqL X.K H a ys/\Q (.bl true) H):=by
 intro pins s σ H xs us Q I r h
 obtain⟨a,ys,rfl,hq,q⟩:=h
 cases r with
 | cons r1 r =>
   cases r with
   | cons r2 r =>
     cases r
     cases r1
     cases r2
     obtain⟨its,rv,p,hz⟩:=I.list hq
     obtain⟨o,n,e,hc,_⟩:=p
     exact IsiPair.list_list e hc ⟨.bl true,H,I,rfl,q⟩
end
theorem a0v (t:SetTable) (es:Array (Int×Value)) (h:Int) (x:Value):(layNew t es h x).2.1.led=t.led:=by
 unfold layNew
 split
 . dsimp only
   unfold SetTable.orStandIn
   split<;>rfl
 . rfl
theorem lq {t t':SetTable}{hs:Array Int}{n:Nat}{o:Array Nat}(h:t.relaid hs n=some (t',o)):t'.led=t.led/\t'.plain=t.plain:=by
 unfold SetTable.relaid SetTable.laid at h
 cases e:SetTable.layClean (SetTable.sizeAbove n - 1) hs with
 | none=>rw[e] at h;cases h
 | some ow =>
   rw[e] at h
   have h':=Av h
   cases h'
   exact⟨rfl,rfl⟩
theorem vh (t:SetTable) (es:Array (Int×Value)) (n:Nat):(relayAll t es n).2.1.led=t.led:=by
 unfold relayAll
 split
 . rename_i t' o e
   dsimp only
   split
   . exact (lq e).1
   . rfl
 . rfl
theorem tj (t:SetTable) (es:Array (Int×Value)) (n:Nat) (hp:(relayAll t es n).2.1.plain=true):t.plain=true:=by
 unfold relayAll at hp
 split at hp
 . rename_i t' o e
   dsimp only at hp
   split at hp
   . rw[<- (lq e).2];exact hp
   . cases hp
 . cases hp
noncomputable def gi:Value->Str
 | .str x _=>x
 | _=>⟨#[]⟩
noncomputable def SSet (P:Program) (w:World) (h:Heap) (a:Addr) (ss:List Str):Prop :=
 ∃o es ep t,h.get? a=some o/\o.ExactSet/\o.data=.set es ep t/\ElemsOf (strKind P w) es.toList/\es.toList.map (fun e=>gi e.2)=ss/\ss.Nodup/\es.size<scanBound/\t.fits es.size=true/\
   t.led = !w.params.followText "set-order" /\ (1<=es.size->t.plain=false)
theorem a4i {P:Program}{w:World}{x:Str}{v:Value}(h:(strKind P w).is x v=true):∃u,v=.str x u:=Hn h
theorem ui {P:Program}{w:World}{l:List (Int×Value)}(h:ElemsOf (strKind P w) l) {e:Int×Value}(he:e∈l):∃u,e.2=.str (gi e.2) u:=by
 obtain⟨⟨k,hk,_⟩,_⟩:=h e he
 obtain⟨u,hu⟩:=a4i hk
 exact⟨u,by rw[hu];rfl⟩
theorem a5p {P:Program}{w:World}{l:List (Int×Value)}(h:ElemsOf (strKind P w) l) (x:Str):(l.findIdx? (fun e=>(strKind P w).is x e.2)).isSome=decide (x∈l.map fun e=>gi e.2):=by
 rw[BY,List.findIdx?_isSome,Fz,decide_eq_true_eq,List.mem_map]
 constructor
 . rintro⟨e,he,hk⟩
   obtain⟨u,hu⟩:=a4i hk
   exact⟨e,he,by rw[hu];rfl⟩
 . rintro⟨e,he,rfl⟩
   obtain⟨u,hu⟩:=ui h he
   refine⟨e,he,?_⟩
   rw[hu]
   exact Fq _ _ _ _
section
variable {P:Program}{w:World}{A:Around}{E:Value->Shared->Prop}{s:Shared}
theorem a5m {a:Addr}{ss:List Str}{x:Str}{u:Tok}{Q:Bool->Shared->Prop}(hS:SSet P w s.heap a ss) (hroom:ss.length+1<scanBound)
   (h:∀h' ss' b,Ct a s.heap h'->SSet P w h' a ss'->(if x∈ss then ss'=ss else ss'.Perm (ss++[x]))->Q b { s with heap:=h' }) :
   wpAny (model P w) A (setAddHashed a (.str x u) (hashStr w x)) Q E s:=by
 obtain⟨o,es,ep,t,ho,hex,hd,hel,hss,hnd,hb,hf,hled,hpl⟩:=hS
 have hkey:(strKind P w).is x (.str x u)=true:=Fq _ _ _ _
 have hn:es.size=ss.length:=by rw[<- hss,Ac,AU]
 unfold setAddHashed setAddHashedIn
 refine AZ (Aa (Dm ho hd hf ?_))
 dsimp only
 rw[byScan_of (knd:=strKind P w) rfl hb hel]
 simp only[↓reduceIte]
 unfold setAddByScan
 refine Aa ?_
 refine Aa (CH ?_)
 refine Aa (wpAny_setScan_of (knd:=strKind P w) hkey ho hd hf hel ?_)
 have hfm:=a5p hel x
 rw[hss] at hfm
 cases hr:List.findIdx? (fun e=>(strKind P w).is x e.2) es.toList with
 | some j =>
   dsimp only
   rw[hr] at hfm
   have hx:x∈ss:=of_decide_eq_true (Eq.symm hfm)
   refine Ae (Ae ?_)
   have:=h s.heap ss false (HP a s.heap) ⟨o,es,ep,t,ho,hex,hd,hel,hss,hnd,hb,hf,hled,hpl⟩ (by rw[if_pos hx])
   exact this
 | none =>
   dsimp only
   rw[hr] at hfm
   have hx:x∉ss:=of_decide_eq_false (Eq.symm hfm)
   have hgw:∀(b:Bool) {s₁:Shared} {Q':Unit->Shared->Prop},Q' () s₁->wpAny (model P w) A (match b with|true=>rule "set.scan.the-table-gave-way" | false=>pure ()) Q' E s₁ :=
     fun b s₁ Q' hq=>by cases b<;>first|exact Ae hq|exact CH hq
   have hperm:=layNew_perm t es (hashStr w x) (.str x u)
   have hfits:=layNew_fits t es (hashStr w x) (.str x u)
   have hled1:=a0v t es (hashStr w x) (.str x u)
   show wpAny (model P w) A _ _ E s
   have hash:(strKind P w).hash x=hashStr w x:=rfl
   try rw[hash]
   generalize hL:layNew t es (hashStr w x) (.str x u)=L at hperm hfits hled1 |-
   obtain⟨es1,t1,wasDummy,gave⟩:=L
   dsimp only at hperm hfits hled1 |-
   rw[HQ] at hperm
   have hel1:ElemsOf (strKind P w) es1.toList:=(ElemsOf.push (knd:=strKind P w) hel hkey rfl).perm hperm
   have hss1:(es1.toList.map fun e=>gi e.2).Perm (ss++[x]):=by
     have:=hperm.map (fun e:Int×Value=>gi e.2)
     rw[AB,hss] at this
     exact this
   have hsz1:es1.size=ss.length+1:=by rw[<- AU,hperm.length_eq,Ag,AU,hn];rfl
   have hb1:es1.size<scanBound:=by rw[hsz1];exact hroom
   have hnd1:(es1.toList.map fun e=>gi e.2).Nodup:=by
     refine hss1.nodup_iff.mpr ?_
     rw[List.nodup_append]
     exact⟨hnd,by simp,fun y hy z hz e=>by rw[Au.mp hz] at e;exact hx (e ▸ hy)⟩
   refine Aa (hgw _ ?_)
   have tail:∀t2:SetTable,t2.fits es1.size=true->t2.led=t.led->t2.plain=false->∀(g:Bool->Sem Unit),(∀(b:Bool) (s₁:Shared) (Q':Unit->Shared->Prop),Q' () s₁->wpAny (model P w) A (g b) Q' E s₁)->
       wpAny (model P w) A (do
         storeSet a es1 t2
         if (!wasDummy && t2.tooFull)=true then do
             g (relayAll t2 es1 (CA es1.size)).2.2
             storeSet a (relayAll t2 es1 (CA es1.size)).1 (relayAll t2 es1 (CA es1.size)).2.1
             pure (some true)
           else pure (some true)) (fun r s'=>r=some true/\∃h' ss',s'={ s with heap:=h' }/\Ct a s.heap h'/\SSet P w h' a ss'/\ss'.Perm (ss++[x])) E s:=by
     intro t2 hf2 hl2 hp2 g hg
     refine Aa (HR ho hd ?_ (Fi hb1))
     have ho1:(s.heap.update a (Ew es1 t2)).get? a=some { o with data:=.set es1 (ep+1) t2 }:=by
       have:=Bl (Ew es1 t2) ho (by rw[HE es1 t2 hd];rfl)
       rw[HE es1 t2 hd] at this;exact this
     have hsb1:=Cz s.heap a (Ew es1 t2)
     split
     . have hp:=relayAll_perm t2 es1 (CA es1.size)
       have hfr:=relayAll_fits t2 es1 (CA es1.size)
       have hlr:=vh t2 es1 (CA es1.size)
       have hpr:=tj t2 es1 (CA es1.size)
       generalize hRl:relayAll t2 es1 (CA es1.size)=Rl at hp hfr hlr hpr |-
       obtain⟨es2,t3,gave2⟩:=Rl
       dsimp only at hp hfr hlr hpr |-
       have hsz:es2.size=es1.size:=by rw[<- AU,hp.length_eq,AU]
       have hb2:es2.size<scanBound:=by rw[hsz];exact hb1
       refine Aa (hg _ _ _ ?_)
       refine Aa (HR ho1 rfl ?_ (Fi hb2))
       have ho2:((s.heap.update a (Ew es1 t2)).update a (Ew es2 t3)).get? a=some { o with data:=.set es2 (ep+1+1) t3 }:=by
         have:=Bl (Ew es2 t3) ho1 (by rw[HE es2 t3 rfl];rfl)
         rw[HE (o:={ o with data:=.set es1 (ep+1) t2 }) es2 t3 rfl] at this;exact this
       have hss2:=hp.map (fun e:Int×Value=>gi e.2)
       refine Ae ⟨rfl,_,es2.toList.map (fun e=>gi e.2),rfl,hsb1.trans (Cz _ a _),⟨_,es2,ep+1+1,t3,ho2,hex,rfl,hel1.perm hp,rfl,hss2.nodup_iff.mpr hnd1,hb2,hfr,hlr.trans (hl2.trans hled),fun _=>?_⟩,hss2.trans hss1⟩
       cases hq:t3.plain with
       | false=>rfl
       | true=>rw[hpr hq] at hp2;cases hp2
     . exact Ae ⟨rfl,_,es1.toList.map (fun e=>gi e.2),rfl,hsb1,⟨_,es1,ep+1,t2,ho1,hex,rfl,hel1,rfl,hnd1,hb1,hf2,hl2.trans hled,fun _=>hp2⟩,hss1⟩
   have fin:∀s':Shared,(∃h' ss',s'={ s with heap:=h' }/\Ct a s.heap h'/\SSet P w h' a ss'/\ss'.Perm (ss++[x]))->Q true s':=by
     rintro s' ⟨h',ss',rfl,hsb,hS',hp'⟩
     exact h h' ss' true hsb hS' (by rw[if_neg hx];exact hp')
   split
   . refine Aa ?_
     rw[hashByValue_scannable 8 (x:=.str x u) rfl]
     refine Ae ?_
     dsimp only[plainKind]
     simp only[Bt,if_false]
     refine BR (tail { t1 with plain:=false } (SetTable.fits_plain_off hfits) hled1 rfl _ ?_) (fun r s' hq=>?_) fun _ _ e=>e
     . intro b s₁ Q' hq;cases b<;>first|exact Ae hq|exact CH hq
     . obtain⟨rfl,hq⟩:=hq
       exact Ae (fin s' hq)
   . rename_i hnp
     refine Aa (Ae ?_)
     simp only[↓reduceIte]
     refine BR (tail t1 hfits hled1 (by simpa using hnp) _ ?_) (fun r s' hq=>?_) fun _ _ e=>e
     . intro b s₁ Q' hq;cases b<;>first|exact Ae hq|exact CH hq
     . obtain⟨rfl,hq⟩:=hq
       exact Ae (fin s' hq)
end
inductive Dd:List Str->List Str->Prop
 | nil:Dd [] []
 | old {xs ss:List Str} {x:Str}:Dd xs ss->x∈ss->Dd (xs++[x]) ss
 | new {xs ss ss':List Str} {x:Str}:Dd xs ss->x∉ss->ss'.Perm (ss++[x])->Dd (xs++[x]) ss'
theorem Dd.mem {xs ss:List Str}(h:Dd xs ss):∀y,y∈ss↔y∈xs:=by
 induction h with
 | nil=>intro y;exact HJ
 | old d hx ih =>
   rename_i zs ss x
   intro y
   rw[ih y,As,Au]
   constructor
   . exact .inl
   . rintro (q|rfl)
     . exact q
     . exact (ih y).mp hx
 | new d hx hp ih =>
   rename_i zs ss ss' x
   intro y
   rw[hp.mem_iff,As,As,ih y]
theorem Dd.nodup {xs ss:List Str}(h:Dd xs ss):ss.Nodup:=by
 induction h with
 | nil=>exact DS
 | old d hx ih=>exact ih
 | new d hx hp ih =>
   rename_i zs ss ss' x
   refine hp.nodup_iff.mpr (Fj.mpr ⟨ih,by simp,fun y hy z hz e=>?_⟩)
   rw[Au.mp hz] at e
   exact hx (e ▸ hy)
theorem Dd.len {xs ss:List Str}(h:Dd xs ss):ss.length<=xs.length:=by
 induction h with
 | nil=>exact Ah _
 | old d hx ih=>rw[Ag];exact Ax ih (Co _ _)
 | new d hx hp ih=>rw[hp.length_eq,Ag,Ag];exact Nat.add_le_add_right ih _
theorem a03:∀{vs:List Value}{xs:List Str},StrsAre vs xs->∀(i:Nat) (v:Value),vs[i]? = some v->∃x t,xs[i]? = some x/\v=.str x t
 | _,_,.nil,i,v,h=>by simp at h
 | _,_,.cons x t r,0,v,h=>by simp at h;exact⟨x,t,rfl,h.symm⟩
 | _,_,.cons x t r,i+1,v,h=>by
   obtain⟨y,u,e1,e2⟩:=a03 r i v (by simpa using h)
   exact⟨y,u,by simpa using e1,e2⟩
section
variable {P:Program}{w:World}{A:Around}{R:Result->Shared->Prop}{I:Addr}{fp wr:List Addr}{G:Array GenState->Array GenState->Prop}{n:Nat}{Pv:Nat->Value->Prop}{St:Nat->Shared->Prop}
theorem SSet.at {h h':Heap}{a:Addr}{ss:List Str}(hS:SSet P w h a ss) (k:∀o,h.get? a=some o->h'.get? a=some o):SSet P w h' a ss:=by
 obtain⟨o,es,ep,tb,ho,rest⟩:=hS
 exact⟨o,es,ep,tb,k o ho,rest⟩
theorem qb (W:WalksS P w A.in1 I fp wr G n Pv St) (S:Addr) (hSf:S∉fp) (xs:List Str) (hn:xs.length=n) (hval:∀i v,Pv i v->∃x t,xs[i]? = some x/\v=.str x t) (hb:n+1<scanBound) :
   ∀(k i:Nat) (s:Shared) (ss:List Str),n - i=k->i<=n->St i s->SSet P w s.heap S ss->Dd (xs.take i) ss->
     (∀s' ss',Moved (S::wr) G s s'->SSet P w s'.heap S ss'->Dd xs ss'->R (.ok (.ret .none)) s')->
     codeAny (model P w) A (.builtin "set.update.loop" ⟨[.ref S,.ref I],[]⟩) R s:=by
 have hSw:S∉wr:=fun h=>hSf (W.sub _ h)
 have hsub:∀b∈wr,b∈S::wr:=fun b hb=>Ao _ hb
 intro k
 induction k with
 | zero =>
   intro i s ss hk hi hst hS hd hR
   have hin:i=n:=by omega
   subst hin
   refine BP DL ?_
   rw[Br CI _]
   show wpAny _ A.in1 (pyNext (.ref I) >>= _) _ _ s
   refine Aa (W.done s _ _ hst fun s' hm=>?_)
   show wpAny _ A.in1 (ret Value.none) _ _ s'
   refine Ae (hR s' ss (hm.mono hsub) (hS.at fun o e=>hm.heap S _ hSw e) ?_)
   rw[Bj (Et hn)] at hd
   exact hd
 | succ k ih =>
   intro i s ss hk hi hst hS hd hR
   have hlt:i<n:=by omega
   refine BP DL ?_
   rw[Br CI _]
   show wpAny _ A.in1 (pyNext (.ref I) >>= _) _ _ s
   refine Aa (W.item i s _ _ hlt hst fun v s' hP hst' hm=>?_)
   obtain⟨x,t,hx,rfl⟩:=hval i v hP
   have hS':SSet P w s'.heap S ss:=hS.at fun o e=>hm.heap S _ hSw e
   show wpAny _ A.in1 (holding [Value.str x t] (setAdd S (.str x t)) >>= _) _ _ s'
   refine Aa (AZ ?_)
   unfold setAdd
   refine AZ ?_
   refine Aa ((strKind P w).pyHash (k:=x) (Fq _ _ _ _) ?_)
   have hl:ss.length<=i:=by have:=hd.len;rw[AS] at this;omega
   refine a5m (s:={ s' with toks:=s'.toks+1 }) hS' (by omega) fun h' ss' b hsb hS2 hss=>?_
   have hd':Dd (xs.take (i+1)) ss':=by
     have e:xs.take (i+1)=xs.take i++[x]:=by rw[BX,hx];rfl
     rw[e]
     by_cases hm:x∈ss
     . rw[if_pos hm] at hss
       rw[hss]
       exact .old hd hm
     . rw[if_neg hm] at hss
       exact .new hd hm hss
   refine Ae ⟨Cd CI _,ih (i+1) _ ss' (by omega) hlt (W.frame _ s' _ _ hst' (CD _) fun b hb o e=>?_) hS2 hd' fun s'' ss'' hm'' hS'' hd''=>?_⟩
   . rw[hsb.2 b (fun h:b=S=>hSf (by rw[<- h];exact hb))];exact e
   . refine hR s'' ss'' (Moved.trans W.gtrans ((hm.mono hsub).then_heap (CD _) fun b o hb e=>?_) hm'') hS'' hd''
     rw[hsb.2 b (fun h:b=S=>hb (by rw[h];exact Aj))];exact e
end
section
variable {P:Program}{w:World}{A:Around}{E:Value->Shared->Prop}{s:Shared}
theorem qo (a:Value) {Q₁:Value->Shared->Prop}
   (h:Q₁ (.ref s.heap.objs.size) { s with heap:=s.heap.push { cls:=.type "set",dict:=none,data:=.set #[] 0 (.fresh 0 0 (!w.params.followText "set-order")) } }) :
   codeAny (model P w) A (.call (.builtin "set.__new__") ⟨[.type "set",a],[]⟩) (wants Q₁ E) s:=by
 refine codeAny_of_tree ?_
 show wpAny _ A.in1 (do checkBuiltinCall "set.__new__" ⟨[.type "set",a],[]⟩;again (.builtin "set.__new__" ⟨[.type "set",a],[]⟩)) _ _ s
 refine Aa (ES (PySem.F.newCall_set_1 a) (Ae ⟨Cd Gu _,BP PySem.F.entry_set_new ?_⟩))
 rw[Br Gu _]
 unfold Builtin.«set.__new__» Builtin.Frozenset.newClass
 have hsub:=sub_set_self
 obtain⟨hp,g,d,tk,os⟩:=s
 dsimp only
 wp_walk
 refine FA (Ae ?_)
 dsimp only
 simp only[newObj]
 refine Aa (wpAny_alloc (Ae ?_))
 exact Ae h
set_option maxHeartbeats 16000000 in
theorem ur {l:Addr}{items:Array Value}{xs:List Str}{Q:Value->Shared->Prop}
   (hh:A.handled=none) (hl:s.heap.IsList l items) (hi:StrsAre items.toList xs) (hb:items.size+1<scanBound)
   (h:∀(h':Heap) (tk:Nat) (ss:List Str),SSet P w h' s.heap.objs.size ss->Dd xs ss->(∀b o,b<s.heap.objs.size->s.heap.get? b=some o->h'.get? b=some o)->Q (.ref s.heap.objs.size) { s with heap:=h',toks:=tk }) :
   wpAny (model P w) A (call (.type "set") [.ref l]) Q E s:=by
 obtain⟨c,tl,hmro⟩:=PySem.F.called_set.mro
 have hmade:=PySem.F.called_set.made
 have hsub:=PySem.F.called_set.sub
 refine GZ (codeAny_of_tree ?_)
 show wpAny _ _ (callAny (.type "set") _) _ _ _
 refine Ae ⟨Code.quiet_builtin _ (by decide +kernel),BP PySem.F.entry_type_call ?_⟩
 rw[Around.under_plain (weight_type_call_type "set" [.ref l] []) rfl]
 have h1:=PySem.F.called_set.notType
 have h2:=PySem.F.called_set.canCreate
 have hct:=PySem.F.typeCall_set_1 (.ref l)
 repeat (any_goals (first|assumption|wp_step))
 refine Dn (qo (.ref l) (E:=E) (Q₁:=fun obj s₁=>obj=.ref s.heap.objs.size/\s₁={ s with heap:=s.heap.push { cls:=.type "set",dict:=none,data:=.set #[] 0 (.fresh 0 0 (!w.params.followText "set-order")) } }) ⟨rfl,rfl⟩) fun r s₁ hr=>?_
 cases r with
 | error e=>exact hr
 | ok fl =>
   cases fl with
   | ret obj =>
     obtain⟨rfl,rfl⟩:=hr
     generalize hled:(!w.params.followText "set-order")=led
     have hS:(s.heap.push { cls:=.type "set",dict:=none,data:=.set #[] 0 (.fresh 0 0 led) }).get? s.heap.objs.size=some { cls:=.type "set",dict:=none,data:=.set #[] 0 (.fresh 0 0 led) }:=An _ rfl
     have hT:Hj { s with heap:=s.heap.push { cls:=.type "set",dict:=none,data:=.set #[] 0 (.fresh 0 0 led) } } (.ref s.heap.objs.size) "set" := ⟨_,hS,rfl⟩
     have hli:=PySem.F.called_set.init.lookup
     have hbi:=PySem.F.called_set.init.bind (.ref s.heap.objs.size)
     repeat (any_goals (first|assumption|wp_step))
     refine Dn (Ex (R:=wants (fun r s₂=>r=.none/\∃h' tk ss,s₂={ s with heap:=h',toks:=tk }/\SSet P w h' s.heap.objs.size ss/\Dd xs ss/\
         (∀b o,b<s.heap.objs.size->s.heap.get? b=some o->h'.get? b=some o)) E) PySem.F.called_set.init.plain PySem.F.entry_set_init (check_set_init_1 hT ?_)) fun r₂ s₂ hr₂=>?_
     . obtain⟨ol,hol,hcl,nl,hdl⟩:=hl
       obtain⟨ocls,odict,odata,oslots⟩:=ol
       simp only at hcl hdl
       subst hcl;subst hdl
       have hol':(s.heap.push { cls:=.type "set",dict:=none,data:=.set #[] 0 (.fresh 0 0 led) }).get? l=some { cls:=.type "list",dict:=odict,data:=.seq items nl,slots:=oslots }:=Ad _ hol
       have hsls:=PySem.F.sub_list_set
       have hslf:=PySem.F.sub_list_frozenset
       have hne:(Value.type "list" == Value.type "dict")=false:=by decide
       have hl1:(s.heap.push { cls:=.type "set",dict:=none,data:=.set #[] 0 (.fresh 0 0 led) }).IsList l items:=⟨_,hol',rfl,nl,rfl⟩
       unfold Builtin.«set.__init__» noKeywords Builtin.Frozenset.updateFrom
       generalize hPI:pyIter=PI
       wp_walk
       subst hPI
       refine CQ hl1 ?_
       refine Aa (wpAny_runValue ?_)
       have hlS:l<s.heap.objs.size:=Ap hol
       have hh3:A.in1.in1.in1.handled=none:=by simp[hh]
       have hneI:l≠(s.heap.push { cls:=.type "set",dict:=none,data:=.set #[] 0 (.fresh 0 0 led) }).objs.size:=by
         rw[Bg];exact Az (Cw hlS)
       have hSf:s.heap.objs.size∉[(s.heap.push { cls:=.type "set",dict:=none,data:=.set #[] 0 (.fresh 0 0 led) }).objs.size,l]:=by
         rw[Bg];simp only[Al,Au,AN,or_false,not_or]
         exact⟨Az (Cb _),Ck hlS⟩
       have hlen:xs.length=items.size:=by have:=hi.length;simpa using this.symm
       have hval:∀(i:Nat) (v:Value),items[i]? = some v->∃x t,xs[i]? = some x/\v=.str x t:=fun i v hv=>a03 hi i v (by rw[BJ];exact hv)
       refine qb ((Iu hh3 _ l hneI items).toS) s.heap.objs.size hSf xs hlen hval hb (items.size - 0) 0 _ [] (by omega) (AG _)
         ⟨⟨_,An _ rfl,rfl,rfl⟩,(hl1.push _)⟩ ?hS0 (by rw[DT];exact .nil) ?hR
       case hS0 =>
         have hget:((s.heap.push { cls:=.type "set",dict:=none,data:=.set #[] 0 (.fresh 0 0 led) }).push { cls:=.type "list_iterator",data:=.fields #[.ref l,.int 0 0] }).get? s.heap.objs.size
             =some { cls:=.type "set",dict:=none,data:=.set #[] 0 (.fresh 0 0 led) }:=Ad _ hS
         exact⟨_,#[],0,_,hget,⟨rfl,rfl,rfl⟩,rfl,fun e he=>by simp at he,rfl,DS,by decide,by rfl,hled.symm,fun q=>absurd q (by simp)⟩
       case hR =>
         intro s' ss' hm hS' hd'
         obtain⟨h',g',d',tk',os'⟩:=s'
         have eg:g'=s.gens:=hm.gens
         have ed:d'=s.drawn:=hm.drawn
         have eo:os'=s.os:=hm.os
         subst eg;subst ed;subst eo
         show wpAny _ _ _ _ _ _
         refine Ae ?_
         show wpAny _ _ (ret Value.none) _ _ _
         refine Ae ⟨rfl,h',tk',ss',rfl,hS',hd',fun b o hb e=>?_⟩
         have hb1:b≠s.heap.objs.size:=Az hb
         have hb2:b≠(s.heap.push { cls:=.type "set",dict:=none,data:=.set #[] 0 (.fresh 0 0 led) }).objs.size:=by
           rw[Bg];exact Az (Cw hb)
         exact hm.heap b o (by simp only[Al,Au,AN,or_false,not_or];exact⟨hb1,hb2⟩) (Ad _ (Ad _ e))
     . cases r₂ with
       | error e=>exact hr₂
       | ok fl₂ =>
         cases fl₂ with
         | ret r =>
           obtain⟨rfl,h',tk,ss,rfl,hS',hd',hk'⟩:=hr₂
           repeat (any_goals (first|assumption|wp_step))
           exact h _ _ ss hS' hd' hk'
         | _=>exact hr₂.elim
   | _=>exact hr.elim
end
namespace SF
theorem entry_set_iter:entryFor table "set.__iter__" = some Builtin.«frozenset.__iter__» := entryFor_alias (id' := "frozenset.__iter__") (by kernel_rfl) rfl (by decide +kernel) (by kernel_rfl)
theorem slot_next:Slot "set_iterator" "__next__" "set_iterator.__next__" :=
 .of (owner := "set_iterator") (n := "__next__") (by rw[DB,CN];kernel_rfl) (by decide +kernel) (by decide +kernel) (by decide +kernel)
   (by first|exact .inl (by decide +kernel)|exact .inr (by decide +kernel)) (by rw[EG];kernel_rfl)
theorem entry_next:entryFor table "set_iterator.__next__" = some Builtin.«set_iterator.__next__» := entryFor_of_tree (by kernel_rfl)
theorem args_next (a:Value):argsOk "set_iterator.__next__" ⟨[a],[]⟩:=by unfold argsOk;kernel_rfl
theorem slot_self:Slot "set_iterator" "__iter__" "set_iterator.__iter__" :=
 .of (owner := "set_iterator") (n := "__iter__") (by rw[DB,CN];kernel_rfl) (by decide +kernel) (by decide +kernel) (by decide +kernel)
   (by first|exact .inl (by decide +kernel)|exact .inr (by decide +kernel)) (by rw[EG];kernel_rfl)
theorem entry_self:entryFor table "set_iterator.__iter__" = some Builtin.«dict_keyiterator.__iter__» :=
 entryFor_alias (id' := "dict_keyiterator.__iter__") (by kernel_rfl) rfl (by decide +kernel) (by kernel_rfl)
theorem args_self (a:Value):argsOk "set_iterator.__iter__" ⟨[a],[]⟩:=by unfold argsOk;kernel_rfl
theorem set_len:typeLookup (.type "set") "__len__" = pure (some (.builtin "set.__len__")):=by rw[DB,CN];kernel_rfl
theorem sub_set:isSubtype (.type "set") (.type "set")=pure true:=by rw[EG];kernel_rfl
end SF
open PySem PySem.Spec PyProof.Rows
theorem jz {α:Type}:∀(l:List α) (i:Nat) (h:i<l.length),(l[i]::l.eraseIdx i).Perm l
 | x::r,0,_=>EH _
 | x::r,i+1,h=>by
   have h':i<r.length:=by simpa using h
   exact (List.Perm.swap x r[i] (r.eraseIdx i)).trans ((jz r i h').cons x)
theorem p8 {α:Type}(next:Nat->Nat):∀(fuel k:Nat) (left:List α) (out:Array α),left.length=fuel->(HF next fuel k left out).toList.Perm (out.toList++left)
 | 0,k,left,out,h=>by
   have e:left=[]:=AY h
   subst e
   simp[HF]
 | fuel+1,k,left,out,h=>by
   have hlt:next k % left.length<left.length:=Ey _ (by omega)
   unfold HF
   rw[Ai hlt]
   dsimp only
   refine (p8 next fuel (k+1) _ _ (by rw[Fe hlt];omega)).trans ?_
   rw[HQ,BI]
   refine List.Perm.append_left _ ?_
   rw[Gv]
   exact jz _ _ hlt
theorem ub {α:Type}(next:Nat->Nat) (xs:Array α):(pickOrder next xs).toList.Perm xs.toList:=by
 have:=p8 next xs.size 0 xs.toList #[] (by simp)
 simpa [pickOrder] using this
section
variable {P:Program}{w:World}{A:Around}{E:Value->Shared->Prop}
theorem a0l {src:Source}{n:Nat}{s:Shared}{Q:Nat->Shared->Prop}(hn:n≠0) (h:∀i d,i<n->Q i { s with drawn:=d }):wpAny (model P w) A (choose src n) Q E s:=by
 intro Γ p hΓ
 unfold choose
 rw[Sem.wp_choose]
 exact⟨hn,h _ _ (Ey _ (Nat.pos_of_ne_zero hn))⟩
theorem jh {α:Type}:∀(n:Nat) (xs:List α) (s:Shared) (Q:List α->Shared->Prop),xs.length=n->(∀ys d,ys.Perm xs->Q ys { s with drawn:=d })->wpAny (model P w) A (drawOrder n xs) Q E s
 | 0,xs,s,Q,hl,h=>by
   have e:xs=[]:=AY hl
   subst e
   exact Ae (h [] s.drawn (EH _))
 | n+1,[],s,Q,hl,h=>by simp at hl
 | n+1,x::r,s,Q,hl,h=>by
   unfold drawOrder
   refine Aa (a0l (by rw[hl];exact Nat.succ_ne_zero n) fun i d hi=>?_)
   rw[Ai hi]
   dsimp only
   refine Aa (jh n _ _ _ (by rw[Fe hi];omega) fun ys d' hp=>?_)
   refine Ae (h _ d' ?_)
   exact (hp.cons _).trans (jz _ _ hi)
end
theorem uf {α:Type}:∀l:List α,(Du l.length).filterMap (fun i=>l[i]?)=l
 | []=>rfl
 | x::r=>by
   rw[A0,List.range_succ_eq_map,Df]
   simp only[List.getElem?_cons_zero]
   rw[HA]
   exact congrArg (x :: ·) (uf r)
noncomputable def uz (first:Value) (i:Nat) (S:Addr) (n ep:Nat):Obj:={ cls:=.type "set_iterator",dict:=none,data:=.fields #[first,.int i 0,.ref S,.int n 0,.int ep 0],slots := #[] }
inductive Ord (w:World) (S:Addr) (es:Array (Int×Value)) (ep:Nat) (t:SetTable) (h:Heap):Value->Nat->List Value->Prop
 | text (i:Nat):w.params.followText "set-order" = true->Ord w S es ep t h (.int 0 0) i ((pickOrder (w.params.setOrder S ep) es).toList.map (·.2))
 | drawn (i:Nat) (T:Addr) (ps:List Nat):w.params.followText "set-order" = false->IsTup h T (ps.map fun (p:Nat)=>Value.int p 0).toArray->(∀p∈ps,p<es.size)->Ord w S es ep t h (.ref T) i (ps.filterMap fun p=>(es[p]?).map (·.2))
 | none (k i:Nat):w.params.followText "set-order" = false->es.size=0->Ord w S es ep t h (.int k 0) i []
 | one0 (e:Int×Value):w.params.followText "set-order" = false->es = #[e]->Ord w S es ep t h (.int 0 0) 0 [e.2]
 | one1 (e:Int×Value) (j:Nat):w.params.followText "set-order" = false->es = #[e]->t.place = #[j]->Ord w S es ep t h (.int (j+1:Nat) 0) 1 [e.2]
noncomputable def a6p (P:Program) (w:World) (S I T0:Addr) (es:Array (Int×Value)) (ep:Nat) (t:SetTable) (ord:List Value) (i:Nat) (h:Heap):Prop :=
 ∃first o,h.get? I=some (uz first i S es.size ep)/\h.get? S=some o/\o.data=.set es ep t/\Ord w S es ep t h first i ord/\∀T,first=.ref T->T=T0
section
variable {P:Program}{w:World}{A:Around}{E:Value->Shared->Prop}{s:Shared}
theorem aa8 (j:Nat):EI #[j] (j+1)=1:=by
 simp[EI,HS]
theorem a9s (j:Nat):EI #[j] 0=0:=by
 simp[EI,HS]
theorem m6 {Q:Bool->Shared->Prop}(h:Q (w.params.followText "set-order") s):wpAny (model P w) A setsByText Q E s:=by
 unfold setsByText
 exact Aa (FA (Ae h))
theorem r8 {S:Addr}{es:Array (Int×Value)}{ep i k:Nat}{t:SetTable}{ord:List Value}{o:Obj}{Q:Option (Value×Nat)->Shared->Prop}(ho:s.heap.get? S=some o) (hd:o.data=.set es ep t) (hf:t.fits es.size=true)
   (hled:t.led = !w.params.followText "set-order") (od:Ord w S es ep t s.heap (.int (k:Int) 0) i ord)
   (h:∀k':Nat,(∀v,ord[i]? = some v->Ord w S es ep t s.heap (.int (k':Int) 0) (i+1) ord)->Q ((ord[i]?).map fun v=>(v,k')) s):wpAny (model P w) A (setNext S k i ep) Q E s:=by
 unfold setNext
 refine Aa (Dm ho hd hf ?_)
 dsimp only
 refine Aa (m6 ?_)
 generalize hk:(k:Int)=ki at od
 generalize hfst:Value.int ki 0=first at od
 cases od with
 | text i ht =>
   cases hfst
   obtain rfl:k=0:=by omega
   rw[ht]
   simp only[if_true,bne_self_eq_false,Bt,if_false]
   unfold setWalk
   refine Aa ?_
   refine Aa (Dm ho hd hf ?_)
   dsimp only
   refine Aa (m6 ?_)
   rw[ht]
   simp only[if_true]
   refine Aa (FA (Ae ?_))
   refine Ae ?_
   have:=h 0 fun v _=>Ord.text (i+1) ht
   rw[Ak,BJ] at this
   rw[Option.map_map] at this
   exact this
 | drawn=>cases hfst
 | none k' i ht h0 =>
   cases hfst
   rw[ht]
   have e0:es = #[]:=Ez h0
   subst e0
   have hl:t.led=true:=by rw[hled,ht];rfl
   rw[if_neg Af]
   split
   . rename_i hdr
     have hdr':(!t.plain && decide ((#[]:Array (Int×Value)).size>1))=true:=hdr
     simp at hdr'
   . refine Aa (show wpAny (model P w) A (if (!t.led && !(#[]:Array (Int×Value)).isEmpty)=true then unsupported "set:maker-not-led" else pure ()) _ _ _ from ?_)
     rw[hl]
     refine Ae (Ae ?_)
     have:=h k fun v e=>by simp at e
     simpa using this
 | one0 e ht he =>
   cases hfst
   obtain rfl:k=0:=by omega
   rw[ht]
   subst he
   have hl:t.led=true:=by rw[hled,ht];rfl
   have hpz:t.place.size=1:=by
     simp only[SetTable.fits,Cc,beq_iff_eq] at hf
     exact hf.1
   obtain⟨j,hj⟩:∃j,t.place = #[j]:=by
     generalize t.place=pl at hpz
     obtain⟨l⟩:=pl
     match l,hpz with
     | [j],_=>exact⟨j,rfl⟩
   rw[if_neg Af]
   split
   . rename_i hdr
     have hdr':(!t.plain && decide ((#[e]:Array (Int×Value)).size>1))=true:=hdr
     simp at hdr'
   . refine Aa (show wpAny (model P w) A (if (!t.led && !(#[e]:Array (Int×Value)).isEmpty)=true then unsupported "set:maker-not-led" else pure ()) _ _ _ from ?_)
     rw[hl]
     refine Ae (Ae ?_)
     rw[hj,a9s]
     exact h (j+1) fun v _=>Ord.one1 e j ht rfl hj
 | one1 e j ht he hp =>
   cases hfst
   obtain rfl:k=j+1:=by omega
   rw[ht]
   subst he
   have hl:t.led=true:=by rw[hled,ht];rfl
   rw[if_neg Af]
   split
   . rename_i hdr
     have hdr':(!t.plain && decide ((#[e]:Array (Int×Value)).size>1))=true:=hdr
     simp at hdr'
   . refine Aa (show wpAny (model P w) A (if (!t.led && !(#[e]:Array (Int×Value)).isEmpty)=true then unsupported "set:maker-not-led" else pure ()) _ _ _ from ?_)
     rw[hl]
     refine Ae (Ae ?_)
     rw[hp,aa8]
     exact h 0 fun v e=>by simp at e
theorem Ord.keep {S:Addr}{es:Array (Int×Value)}{ep i:Nat}{t:SetTable}{ord:List Value}{first:Value}{h h':Heap}(od:Ord w S es ep t h first i ord) (k:∀T o,first=.ref T->h.get? T=some o->h'.get? T=some o):Ord w S es ep t h' first i ord:=by
 cases od with
 | text i ht=>exact .text i ht
 | drawn i T ps ht hT hp =>
   obtain⟨o,e,c⟩:=hT
   exact .drawn i T ps ht ⟨o,k T o rfl e,c⟩ hp
 | none kk i ht h0=>exact .none kk i ht h0
 | one0 e ht he=>exact .one0 e ht he
 | one1 e j ht he hp=>exact .one1 e j ht he hp
theorem Ord.kind {S:Addr}{es:Array (Int×Value)}{ep i:Nat}{t:SetTable}{ord:List Value}{first:Value}{h:Heap}(od:Ord w S es ep t h first i ord) :
   (∃k:Nat,first=.int (k:Int) 0)\/∃(T:Addr) (ps:List Nat),first=.ref T/\w.params.followText "set-order" = false/\IsTup h T (ps.map fun (p:Nat)=>Value.int p 0).toArray/\(∀p∈ps,p<es.size)/\ord=ps.filterMap fun p=>(es[p]?).map (·.2):=by
 cases od with
 | text i ht=>exact .inl ⟨0,rfl⟩
 | drawn i T ps ht hT hp=>exact .inr ⟨T,ps,rfl,ht,hT,hp,rfl⟩
 | none k i ht h0=>exact .inl ⟨k,rfl⟩
 | one0 e ht he=>exact .inl ⟨0,rfl⟩
 | one1 e j ht he hp=>exact .inl ⟨j+1,rfl⟩
theorem Ord.step {S:Addr}{es:Array (Int×Value)}{ep i:Nat}{t:SetTable}{ord:List Value}{T:Addr}{h:Heap}(od:Ord w S es ep t h (.ref T) i ord):Ord w S es ep t h (.ref T) (i+1) ord:=by
 cases od with
 | drawn i T ps ht hT hp=>exact .drawn (i+1) T ps ht hT hp
end
theorem xa {es:Array (Int×Value)}:∀{ps:List Nat},(∀p∈ps,p<es.size)->∀(i:Nat),(ps.filterMap fun p=>(es[p]?).map (·.2))[i]? = (ps[i]?).bind fun p=>(es[p]?).map (·.2)
 | [],_,i=>by simp
 | p::r,hp,i=>by
   have h1:p<es.size:=hp p (by simp)
   have e:es[p]? = some es[p]:=by simp[h1]
   rw[Df,e]
   cases i with
   | zero=>simp[e]
   | succ i=>simpa using xa (fun q hq=>hp q (Ao _ hq)) i
section
variable {P:Program}{w:World}{A:Around}
theorem a2c (hh:A.handled=none) {S I:Addr}{es:Array (Int×Value)}{ep:Nat}{t:SetTable}{ord:List Value}(fp:List Addr) (hI:I∈fp) (hS:S∈fp) (hne:S≠I) (hf:t.fits es.size=true) (hled:t.led = !w.params.followText "set-order")
   {T0:Addr} (hT:T0∈fp) (hTI:T0≠I) :
   Walks P w A I fp [I] ord.length (fun i v=>ord[i]? = some v) (a6p P w S I T0 es ep t ord) where
 sub:=fun b hb=>by rw[Au.mp hb];exact hI
 frame:=fun i h h' st hk=>by
   obtain⟨first,o,h1,h2,h3,h4,h5⟩:=st
   exact⟨first,o,hk I hI _ h1,hk S hS _ h2,h3,h4.keep (fun T o e q=>hk T (by rw[h5 T e];exact hT) o q),h5⟩
 item:=fun i s Q E hi st hQ=>by
   obtain⟨first,o,h1,h2,h3,h4,h5⟩:=st
   have ty:s.TypeIs (.ref I) "set_iterator" := ⟨_,h1,rfl⟩
   unfold pyNext
   refine Aa (Eg (Bn (name:=Bq "__next__") ty SF.slot_next (Bm SF.slot_next ty SF.entry_next ?_ (SF.args_next _))))
   show wpAny _ _ (fieldsOf (.ref I) >>= _) _ _ s
   refine Aa (EJ h1 rfl ?_)
   show wpAny _ _ (setEntries S >>= _) _ _ s
   refine Aa (ED h2 h3 hf ?_)
   simp only[bne_self_eq_false,Bt,if_false]
   have hv:ord[i]? = some ord[i]:=Ai hi
   rcases h4.kind with⟨k,rfl⟩|⟨T,ps,rfl,ht,hTt,hps,hord⟩
   . show wpAny _ _ (setNext S (CV (k:Int)) (CV (i:Int)) (CV (ep:Int)) >>= _) _ _ s
     simp only[By]
     refine Aa (r8 h2 h3 hf hled h4 fun k' hk'=>?_)
     rw[hv]
     show wpAny _ _ (setField (.ref I) 0 (rawInt k') >>= _) _ _ s
     refine Aa (Bu h1 (by simp) fun ha ha1 ha2=>?_)
     refine Aa (Bu ha1 (by simp) fun hb hb1 hb2=>?_)
     refine Ae ⟨_,rfl,Ae (hQ _ hb s.toks hv ⟨.int (k':Int) 0,o,hb1,?_,h3,(hk' _ hv).keep (fun T o e=>by cases e),(fun T e=>by cases e)⟩ fun b o hb' e=>?_)⟩
     . rw[hb2.2 S hne,ha2.2 S hne];exact h2
     . have:b≠I:=fun z=>hb' (by simp[z])
       rw[hb2.2 b this,ha2.2 b this];exact e
   . have hTne:T≠I:=by rw[h5 T rfl];exact hTI
     have hg:=xa hps i
     rw[<- hord,hv] at hg
     cases hpi:ps[i]? with
     | none=>rw[hpi] at hg;cases hg
     | some p =>
       rw[hpi] at hg
       have hp:p<es.size:=hps p (AQ hpi)
       have hep:es[p]? = some es[p]:=by simp[hp]
       have hg':some ord[i]=(es[p]?).map (·.2):=hg
       rw[hep] at hg'
       have hval:ord[i]=es[p].2:=Av hg'
       show wpAny _ _ (seqItems? (.ref T) >>= _) _ _ s
       obtain⟨oT,eT,cT,nT,dT⟩:=hTt
       refine Aa (BA eT dT ?_)
       dsimp only
       have hpl:((ps.map fun (p:Nat)=>Value.int p 0).toArray)[CV (i:Int)]? = some (.int (p:Int) 0):=by
         rw[By,Cr,Ak,hpi];rfl
       rw[hpl]
       show wpAny _ _ (setNextDrawn S (CV (p:Int)) (CV (ep:Int)) >>= _) _ _ s
       simp only[By]
       unfold setNextDrawn
       refine Aa (Aa (Dm h2 h3 hf ?_))
       simp only[bne_self_eq_false,Bt,if_false]
       rw[hep]
       refine Ae ?_
       refine Aa (Bu h1 (by simp) fun hb hb1 hb2=>?_)
       refine Ae ⟨_,rfl,Ae (hQ _ hb s.toks (by rw[hv,hval];rfl) ⟨.ref T,o,hb1,?_,h3,h4.step.keep (fun T' o e q=>?_),h5⟩ fun b o hb' e=>?_)⟩
       . rw[hb2.2 S hne];exact h2
       . cases e;rw[hb2.2 T hTne];exact q
       . have:b≠I:=fun z=>hb' (by simp[z])
         rw[hb2.2 b this];exact e
 done:=fun s Q E st hQ=>by
   obtain⟨first,o,h1,h2,h3,h4,h5⟩:=st
   have ty:s.TypeIs (.ref I) "set_iterator" := ⟨_,h1,rfl⟩
   have hv:ord[ord.length]? = none:=BK (Ah _)
   have stop:∀h':Heap,(∀b o,b≠I->s.heap.get? b=some o->h'.get? b=some o)->wpAny (model P w) A.in1 (do raiseNew (<- newExc (.type "StopIteration") []):Sem Fin) (fun _ _=>False)
       (fun x s'=>wpAny (model P w) A (do let b<-isInstance x (.type "StopIteration");if b=true then pure Option.none else throw x) Q E s') { s with heap:=h' }:=by
     intro h' hk
     refine Aa ?_
     simp only[newExc,newTuple]
     refine Aa (AL ?_ (by size_fits))
     refine Aa (m:=firstArgMember _ _) (ES (a:=Value.none) (by first|rfl|(simp only[firstArgMember];rfl)) ?_)
     refine AL ?_ (by size_fits)
     simp only[raiseNew]
     refine Aa (wpAny_handled ?_)
     rw[show A.in1.handled=none from hh]
     refine Aa (Ae (wpAny_throw ?_))
     refine Aa (Eh (T := "StopIteration") (b:=true) ⟨_,An _ rfl,rfl⟩ Gw ?_)
     exact Ae (hQ _ _ fun b o hb e=>Ad _ (Ad _ (hk b o (fun z=>hb (by simp[z])) e)))
   unfold pyNext
   refine Aa (Eg (Bn (name:=Bq "__next__") ty SF.slot_next (Bm SF.slot_next ty SF.entry_next ?_ (SF.args_next _))))
   show wpAny _ _ (fieldsOf (.ref I) >>= _) _ _ s
   refine Aa (EJ h1 rfl ?_)
   show wpAny _ _ (setEntries S >>= _) _ _ s
   refine Aa (ED h2 h3 hf ?_)
   simp only[bne_self_eq_false,Bt,if_false]
   rcases h4.kind with⟨k,rfl⟩|⟨T,ps,rfl,ht,hTt,hps,hord⟩
   . show wpAny _ _ (setNext S (CV (k:Int)) (CV (ord.length:Int)) (CV (ep:Int)) >>= _) _ _ s
     simp only[By]
     refine Aa (r8 h2 h3 hf hled h4 fun k' hk'=>?_)
     rw[hv]
     show wpAny _ _ (setField (.ref I) 2 .none >>= _) _ _ s
     refine Aa (Bu h1 (by simp) fun ha ha1 ha2=>?_)
     refine BR (stop ha fun b o hb e=>by rw[ha2.2 b hb];exact e) (fun _ _ z=>z.elim) fun x s' z=>?_
     exact z
   . have hpi:ps[ord.length]? = none:=by
       have hg:=xa hps ord.length
       rw[<- hord,hv] at hg
       cases hpi:ps[ord.length]? with
       | none=>rfl
       | some p =>
         rw[hpi] at hg
         have hp:p<es.size:=hps p (AQ hpi)
         have hep:es[p]? = some es[p]:=by simp[hp]
         have hg':(none:Option Value)=(es[p]?).map (·.2):=hg
         rw[hep] at hg'
         cases hg'
     show wpAny _ _ (seqItems? (.ref T) >>= _) _ _ s
     obtain⟨oT,eT,cT,nT,dT⟩:=hTt
     refine Aa (BA eT dT ?_)
     dsimp only
     have hpl:((ps.map fun (p:Nat)=>Value.int p 0).toArray)[CV (ord.length:Int)]? = none:=by
       rw[By,Cr,Ak,hpi];rfl
     rw[hpl]
     show wpAny _ _ (setField (.ref I) 0 (rawInt 0) >>= _) _ _ s
     refine Aa (Bu h1 (by simp) fun ha ha1 ha2=>?_)
     refine Aa (Bu ha1 (by simp) fun hb hb1 hb2=>?_)
     refine BR (stop hb fun b o hb' e=>by rw[hb2.2 b hb',ha2.2 b hb'];exact e) (fun _ _ z=>z.elim) fun x s' z=>?_
     exact z
 self:=fun i s Q E st hQ=>by
   obtain⟨first,o,h1,h2,h3,h4,h5⟩:=st
   have ty:s.TypeIs (.ref I) "set_iterator" := ⟨_,h1,rfl⟩
   refine Fk ty SF.slot_self (Bm SF.slot_self ty SF.entry_self ?_ (SF.args_self _))
   show wpAny _ _ (ret (.ref I)) _ _ s
   exact Ae ⟨_,rfl,"set_iterator",_,ty,SF.slot_next.lookup,hQ⟩
theorem yg {E:Value->Shared->Prop}{s:Shared}{S:Addr}{ss:List Str}{Q:Value->Shared->Prop}(hS:SSet P w s.heap S ss)
   (h:∀(h':Heap) (d':Drawn) (I:Addr) (fp:List Addr) (ord:List Value) (St:Nat->Heap->Prop),(∀b o,s.heap.get? b=some o->h'.get? b=some o)->s.heap.objs.size<=I->I∈fp->(∀b∈fp,b<h'.objs.size/\(b=S\/s.heap.objs.size<=b))->
     (∀A':Around,A'.handled=none->Walks P w A' I fp [I] ord.length (fun i v=>ord[i]? = some v) St)->St 0 h'->(∃ys,StrsAre ord ys/\ys.Perm ss)->Q (.ref I) { s with heap:=h',drawn:=d' }) :
   wpAny (model P w) A (pyIter (.ref S)) Q E s:=by
 obtain⟨o,es,ep,t,ho,hex,hd,hel,hss,hnd,hb,hf,hled,hpl⟩:=hS
 have ty:s.TypeIs (.ref S) "set" := ⟨o,ho,hex.1⟩
 have hlt:S<s.heap.objs.size:=Ap ho
 have hstr:∀l:List (Int×Value),(∀e∈l,e∈es.toList)->StrsAre (l.map (·.2)) (l.map fun e=>gi e.2):=by
   intro l
   induction l with
   | nil=>intro _;exact .nil
   | cons e r ih =>
     intro hm
     obtain⟨u,hu⟩:=ui hel (hm e (by simp))
     have:=StrsAre.cons (gi e.2) u (ih fun x hx=>hm x (Ao _ hx))
     rw[<- hu] at this
     exact this
 refine Fk ty Gx (Bm Gx ty SF.entry_set_iter ?_ (PySem.F.args_set_iter_1 _))
 show wpAny _ _ (FB S >>= _) _ _ s
 unfold FB
 refine Aa (Aa (ED ho hd hf (Ae ?_)))
 unfold setDrawn
 refine Aa (Aa (Dm ho hd hf ?_))
 dsimp only
 refine Aa (m6 (Ae ?_))
 have make:∀(first:Value) (T0:Addr) (ord:List Value) (h1:Heap) (d1:Drawn),(∀b ob,s.heap.get? b=some ob->h1.get? b=some ob)->s.heap.objs.size<=h1.objs.size->(∀T,first=.ref T->T=T0)->T0<h1.objs.size->(T0=S\/s.heap.objs.size<=T0)->Ord w S es ep t h1 first 0 ord->(∃ys,StrsAre ord ys/\ys.Perm ss)->
     Q (.ref h1.objs.size) { s with heap:=h1.push (uz first 0 S es.size ep),drawn:=d1 }:=by
   intro first T0 ord h1 d1 hk hsz hT hT1 hT2 od hord
   have hne:S≠h1.objs.size:=Az (AC hlt hsz)
   have szp:(h1.push (uz first 0 S es.size ep)).objs.size=h1.objs.size+1:=Bg ..
   refine h _ d1 h1.objs.size [h1.objs.size,S,T0] ord (a6p P w S h1.objs.size T0 es ep t ord) (fun b ob e=>Ad _ (hk b ob e)) hsz (by simp) (fun b hb=>?_) (fun A' hA=>?_) ⟨first,o,An _ rfl,Ad _ (hk S o ho),hd,od.keep (fun T ob _ e=>Ad _ e),hT⟩ hord
   . rw[szp]
     have hb':b=h1.objs.size\/b=S\/b=T0:=by simpa using hb
     rcases hb' with rfl|rfl|rfl
     . exact⟨Cb _,.inr hsz⟩
     . exact⟨Cw (AC hlt hsz),.inl rfl⟩
     . exact⟨Cw hT1,hT2⟩
   . exact a2c hA _ (by simp) (by simp) hne hf hled (by simp) (Az hT1)
 have plain0:∀(ord:List Value),Ord w S es ep t s.heap (.int 0 0) 0 ord->(∃ys,StrsAre ord ys/\ys.Perm ss)->Q (.ref s.heap.objs.size) { s with heap:=s.heap.push (uz (.int 0 0) 0 S es.size ep) }:=fun ord od hord =>
   make (.int 0 0) S ord s.heap s.drawn (fun _ _ e=>e) (Ah _) (fun T e=>by cases e) hlt (.inl rfl) od hord
 cases hbt:w.params.followText "set-order" with
 | true =>
   simp only[Bool.not_true,Gq,Bt,if_false]
   refine Aa (Ae (Aa (Fl ho hd hf ?_)))
   refine Aa (AL (Ae ⟨_,rfl,"set_iterator",_,⟨_,An _ rfl,rfl⟩,SF.slot_next.lookup,?_⟩))
   refine plain0 _ (.text 0 hbt) ⟨_,hstr _ (fun e he=>(ub _ es).mem_iff.mp he),?_⟩
   rw[<- hss];exact (ub _ es).map _
 | false =>
   show wpAny _ _ (if (!false && (!t.plain && decide (es.size>1)))=true then _ else _) _ _ s
   by_cases h2:es.size>1
   . have hp0:t.plain=false:=hpl (by omega)
     rw[if_pos (by simp[hp0,h2])]
     refine Aa (jh es.size (Du es.size) s _ (by simp) fun ps d hps=>?_)
     have hpsl:ps.length=es.size:=by rw[hps.length_eq,Fm]
     refine Aa (AL ?_ ?_)
     . refine (Aa (Fl (s:={ s with heap:=s.heap.push _,drawn:=d }) (Ad _ ho) hd hf ?_))
       refine Aa (AL (Ae ⟨_,rfl,"set_iterator",_,⟨_,An _ rfl,rfl⟩,SF.slot_next.lookup,?_⟩))
       have hlp:∀p∈ps,p<es.size:=fun p hp=>EK.mp (hps.mem_iff.mp hp)
       refine make (.ref s.heap.objs.size) s.heap.objs.size (ps.filterMap fun p=>(es[p]?).map (·.2)) (s.heap.push _) d (fun b ob e=>Ad _ e) (by rw[Bg];exact CD _) (fun T e=>by cases e;rfl) (by rw[Bg];exact Cb _) (.inr (Ah _))
         (.drawn 0 _ ps hbt ⟨_,An _ rfl,rfl,_,rfl⟩ hlp) ?_
       have e1:(ps.filterMap fun p=>(es[p]?).map (·.2))=(ps.filterMap fun p=>es[p]?).map (·.2):=by rw[List.map_filterMap]
       have hpm:(ps.filterMap fun p=>es[p]?).Perm es.toList:=by
         have:=hps.filterMap (fun p=>es[p]?)
         have e2:=uf es.toList
         simp only[BJ,AU] at e2
         rw[e2] at this
         exact this
       refine⟨_,by rw[e1];exact hstr _ (fun e he=>hpm.mem_iff.mp he),?_⟩
       rw[<- hss];exact hpm.map _
     . have hz:ps.length<=sizeLine:=by rw[hpsl];exact Fi hb
       show (ps.map _).toArray.size<=sizeLine
       rw[Ar,Ac];exact hz
   . rw[if_neg (by simp[h2])]
     refine Aa (Ae (Aa (Fl ho hd hf ?_)))
     refine Aa (AL (Ae ⟨_,rfl,"set_iterator",_,⟨_,An _ rfl,rfl⟩,SF.slot_next.lookup,?_⟩))
     by_cases h1:es.size=0
     . refine plain0 [] (.none 0 0 hbt h1) ⟨[],.nil,?_⟩
       rw[<- hss,Ez h1]
       exact EH _
     . obtain⟨e,he⟩:∃e,es = #[e]:=by
         obtain⟨l⟩:=es
         have hl:l.length=1:=by
           have a1:¬ l.length>1:=h2
           have a2:¬ l.length=0:=h1
           omega
         match l,hl with
         | [e],_=>exact⟨e,rfl⟩
       refine plain0 [e.2] (.one0 e hbt he) ⟨[gi e.2],hstr [e] (fun x hx=>by rw[he];exact hx),?_⟩
       rw[<- hss,he]
       exact EH _
theorem xy {E:Value->Shared->Prop}{s:Shared}{S:Addr}{ss:List Str}{Q:List Value->Shared->Prop}(hh:A.handled=none) (hS:SSet P w s.heap S ss) (hl:ss.length<=sizeLine)
   (h:∀(h':Heap) (d':Drawn) (tk:Nat) (ord:List Value) (ys:List Str),(∀b o,s.heap.get? b=some o->h'.get? b=some o)->s.heap.objs.size<=h'.objs.size->StrsAre ord ys->ys.Perm ss->Q ord { s with heap:=h',drawn:=d',toks:=tk }) :
   wpAny (model P w) A (collect (.ref S)) Q E s:=by
 obtain⟨o,es,ep,t,ho,hex,hd,hrest⟩:=id hS
 have hlt:S<s.heap.objs.size:=Ap ho
 unfold collect
 refine Aa (wpAny_runValue (BP entry_proto_collect' ?_))
 rw[Br PySem.F.plain_proto_collect _]
 show wpAny _ A.in1 (newList [] >>= fun l=>again (.builtin "list.__iadd__" ⟨[l,.ref S],[]⟩)) _ _ s
 refine Aa (AL ?_)
 refine Ae ⟨Cd FK _,BP entry_list_iadd' ?_⟩
 rw[Br FK _]
 generalize hH:s.heap.push { cls:=.type "list",data:=.seq ([]:List Value).toArray }=H
 have hHs:H.objs.size=s.heap.objs.size+1:=by rw[<- hH,Bg]
 have old:∀b ob,s.heap.get? b=some ob->H.get? b=some ob:=fun b ob e=>by rw[<- hH];exact Ad _ e
 have hS1:SSet P w H S ss:=hS.at fun o e=>old S o e
 have hD:H.get? s.heap.objs.size=some { cls:=.type "list",data:=.seq #[] }:=by rw[<- hH];exact An _ rfl
 show wpAny _ A.in1 (EV (.ref s.heap.objs.size) (.ref S) (.ref s.heap.objs.size)) _ _ { s with heap:=H }
 unfold EV
 refine Aa (Dr (T := "set") (v:=.ref S) (show Hj { s with heap:=H } (.ref S) "set" from⟨o,old S o ho,hex.1⟩) ?_)
 have h1:FC (.ref s.heap.objs.size) (.ref S)=false:=by simp[FC,Ck hlt]
 have h2:(Value.type "set" == Value.type "list")=false:=by decide
 have h3:(Value.type "set" == Value.type "tuple")=false:=by decide
 simp only[h1,h2,h3,IG,Bt,if_false]
 refine Aa (yg (s:={ s with heap:=H }) hS1 fun h' d' I fp ord St hk hI hIf hfp W st ⟨ys,hys,hp⟩=>?_)
 have ty':Hj { s with heap:=h',drawn:=d' } (.ref S) "set" := ⟨o,hk S o (old S o ho),hex.1⟩
 refine Aa (AZ ?_)
 unfold Builtin.List.listLengthHint
 refine Aa (FU (T := "set") (v:=.ref S) ty' SF.set_len ?_)
 wp_delta
 refine Aa (Eh (T := "set") (v:=.ref S) (b:=true) ty' SF.sub_set ?_)
 show wpAny _ A.in1 (typeOf (Value.ref S) >>= _) _ _ _
 refine Aa (Dr (T := "set") (v:=.ref S) ty' ?_)
 refine Ae ?_
 have hDI:s.heap.objs.size≠I:=fun z=>by
   have:H.objs.size<=I:=hI
   rw[hHs] at this
   omega
 have hSf:s.heap.objs.size∉fp:=fun hb=>by
   rcases (hfp _ hb).2 with z|z
   . exact absurd z (Ck hlt)
   . have:H.objs.size<=s.heap.objs.size:=z
     rw[hHs] at this
     omega
 have hlen:ord.length=ss.length:=by
   have a1:ord.length=ys.length:=hys.length
   rw[a1,hp.length_eq]
 have key:∀(h1:Heap) (c₁:Nat),St 0 h1->(∀b ob,b≠s.heap.objs.size->h'.get? b=some ob->h1.get? b=some ob)->h1.get? s.heap.objs.size=some { cls:=.type "list",data:=.seq #[] c₁ }->
     codeAny (model P w) A (.builtin "list.extend.loop" ⟨[.ref s.heap.objs.size,.ref I,.ref s.heap.objs.size],[]⟩)
       (fun r s'=>r=.ok (.ret (.ref s.heap.objs.size))/\∃acc' c',s'.heap.get? s.heap.objs.size=some { cls:=.type "list",data:=.seq acc' c' }/\Q acc'.toList s') { s with heap:=h1,drawn:=d' }:=by
   intro h1 c₁ st1 hk1 hD1
   refine codeAny_extend_loopS (W A.in1 hh).toS (by rw[hlen];exact hl) _ hSf _ ord.length 0 _ #[] c₁ rfl (AG _) st1 hD1 (ItemsOf.nil _) fun s' acc' c' hm hS' hacc=>?_
   refine⟨rfl,acc',c',hS',?_⟩
   have eacc:acc'.toList=ord:=by
     refine List.ext_getElem? fun i=>?_
     rw[BJ]
     by_cases hi:i<acc'.size
     . have e:acc'[i]? = some acc'[i]:=by simp[hi]
       rw[e,hacc.2 i _ e]
     . have hi':ord.length<=i:=by have:=hacc.1;omega
       rw[BK hi']
       simp;omega
   have heq:s'={ s with heap:=s'.heap,drawn:=d',toks:=s'.toks }:=Moved.eq_with hm
   rw[eacc,heq]
   refine h s'.heap d' s'.toks ord ys (fun b ob e=>?_) (BV (Ap hS')) hys hp
   have hb1:b≠s.heap.objs.size:=Az (Ap e)
   have hb2:b≠I:=fun z=>by
     have hz:H.objs.size<=b:=by rw[z];exact hI
     rw[hHs] at hz
     exact Bi _ (AC (Cw (Ap e)) hz)
   exact hm.heap b ob (by simp[hb1,hb2]) (hk1 b ob hb1 (hk b ob (old b ob e)))
 have hD':h'.get? s.heap.objs.size=some { cls:=.type "list",data:=.seq #[] }:=hk _ _ hD
 have fin:∀(h1:Heap) (c₁:Nat),St 0 h1->(∀b ob,b≠s.heap.objs.size->h'.get? b=some ob->h1.get? b=some ob)->h1.get? s.heap.objs.size=some { cls:=.type "list",data:=.seq #[] c₁ }->∀(R:Result->Shared->Prop),
     (∀s' acc' c',s'.heap.get? s.heap.objs.size=some { cls:=.type "list",data:=.seq acc' c' }->Q acc'.toList s'->R (.ok (.ret (.ref s.heap.objs.size))) s')->
     codeAny (model P w) A (.builtin "list.extend.loop" ⟨[.ref s.heap.objs.size,.ref I,.ref s.heap.objs.size],[]⟩) R { s with heap:=h1,drawn:=d' }:=by
   intro h1 c₁ a1 a2 a3 R hR
   refine Dn (key h1 c₁ a1 a2 a3) fun r s' ⟨e,acc',c',q1,q2⟩=>?_
   subst e
   exact hR s' acc' c' q1 q2
 have last:∀(R:Result->Shared->Prop),R=R->True:=fun _ _=>trivial
 refine wpAny_ite_split (fun _=>?_) (fun _=>Ae ⟨Cd Fs _,fin h' 0 st (fun b ob _ e=>e) hD' _ fun s' acc' c' q1 q2=>?_⟩)
 . refine Aa (CH ?_)
   refine Aa ?_
   show wpAny _ _ (updateSeq s.heap.objs.size (·.push .none) >>= fun _=>updateSeq s.heap.objs.size (·.pop)) _ _ _
   refine Aa (DC hD' rfl ?_)
   have hS₂:=Bl (DR (·.push Value.none)) hD' rfl
   refine DC (hz:=by seq_fits) hS₂ rfl ?_
   have hS₃:=Bl (DR (·.pop)) hS₂ rfl
   refine Ae ⟨Cd Fs _,fin _ _ ?_ (fun b ob hb e=>?_) hS₃ _ fun s' acc' c' q1 q2=>?_⟩
   . refine (W A.in1 hh).frame 0 _ _ st fun b hb o e=>?_
     have hbS:b≠s.heap.objs.size:=fun z=>hSf (z ▸ hb)
     exact (Bd _ _ (AO hbS)).trans ((Bd _ _ (AO hbS)).trans e)
   . exact (Bd _ _ (AO hb)).trans ((Bd _ _ (AO hb)).trans e)
   . show wpAny _ A (load s.heap.objs.size >>= _) _ _ _
     exact Aa (Ip q1 (Ae q2))
 . show wpAny _ A (load s.heap.objs.size >>= _) _ _ _
   exact Aa (Ip q1 (Ae q2))
theorem yk {E:Value->Shared->Prop}{s:Shared}{S:Addr}{ss:List Str}{Q:Value->Shared->Prop}(hh:A.handled=none) (hS:SSet P w s.heap S ss) (h64:ss.length<64)
   (h:∀(h':Heap) (d':Drawn) (tk:Nat) (l:Addr) (vs:List Value) (zs:List Str) (e:Nat),(∀b o,s.heap.get? b=some o->h'.get? b=some o)->s.heap.objs.size<=l->h'.get? l=some { cls:=.type "list",data:=.seq vs.toArray e }->StrsAre vs zs->zs.Perm ss->sortedS zs=true->
     Q (.ref l) { s with heap:=h',drawn:=d',toks:=tk }) :
   wpAny (model P w) A (call (.builtin "sorted") [.ref S]) Q E s:=by
 refine Calls.call_function_entry kind_sorted plain_sorted entry_sorted (args_sorted1 _) ?_
 unfold Builtin.«sorted»
 refine Aa (m:=checkCount "sorted" 1 1 _) (Ae ?_)
 refine Aa (xy (A:=A.in1) (show A.in1.handled=none from hh) hS (by rw[Gc];omega) fun h1 d1 tk1 ord ys hk1 hsz1 hys hp1=>?_)
 have hn:ord.length<64:=by
   have:ord.length=ys.length:=hys.length
   rw[this,hp1.length_eq];exact h64
 refine Aa (wpAny_newList ?_ (by rw[Gc];omega))
 have hoL:(h1.push (seqObj "list" ord.toArray 0)).get? h1.objs.size=some (seqObj "list" ord.toArray 0):=An _ rfl
 show wpAny _ _ _ _ _ { s with heap:=h1.push (seqObj "list" ord.toArray 0),drawn:=d1,toks:=tk1 }
 refine Aa (AZ (Bm slot_list_sort ⟨_,hoL,rfl⟩ entry_list_sort (list_sort_treeK strKind_oneLt hoL hys.keysOf (fun v₁ v₂ rest e=>keyKind_strs (by rw[<- e];exact hys)) hn fun st' a1 a2=>⟨_,rfl,?_⟩) (args_list_sort _)))
 obtain⟨zs,q1,q2,q3⟩:=sorted_out_str hys a1 a2
 refine Ae ⟨_,rfl,?_⟩
 obtain⟨e,he⟩:=sortedHeap_at (out:=(arrOf st').map (·.2)) hoL
 refine h _ d1 tk1 h1.objs.size ((arrOf st').map (·.2)).toList zs e (fun b o q=>?_) hsz1 he q1 (q2.trans hp1) q3
 have hb:=Ap (hk1 b o q)
 rw[sortedHeap_old (Az hb) (by rw[Bg];exact Cw hb)]
 exact Ad _ (hk1 b o q)
end
section
variable {X:Cx}
noncomputable def SetO (P:Program) (w:World) (a:Addr) (ss:List Str):HO:=.ext fun h=>SSet P w h a ss
theorem u8:∀{xs:List Str}{us:List Value},Vals (xs.map V.str) us->StrsAre us xs
 | [],_,h=>by cases h;exact .nil
 | x::r,_,h=>by
   cases h with
   | cons h1 h2=>obtain⟨t,rfl⟩:=h1;exact .cons x t (u8 h2)
theorem u9:∀{us:List Value}{xs:List Str},StrsAre us xs->Vals (xs.map V.str) us
 | _,_,.nil=>.nil
 | _,_,.cons x t r=>.cons ⟨t,rfl⟩ (u9 r)
theorem vq (hc:X.calm=true):cy X (.type "set") (fun vs H Q=>∃(a:Addr) (xs:List Str),vs=[.ref a]/\SqL X.K H a (xs.map V.str)/\xs.length+1<scanBound/\
   ∀p ss,H p=none->Dd xs ss->Q (.ref p) (upd H p (SetO X.prog X.w p ss))):=by
 intro pins s σ H vs us Q I r h
 obtain⟨a,xs,rfl,hq,hz,q⟩:=h
 obtain⟨u,rfl,ru⟩:=r.one
 cases ru
 obtain⟨its,rv,p,_⟩:=I.list hq
 have hs:=u8 rv
 have hl:its.length=xs.length:=hs.length
 refine ur (I.ok.hd hc) p.isList (by simpa using hs) (by rw[Ar,hl];exact hz) fun h' tk ss hS hd hk=>?_
 have fr:H s.heap.objs.size=none:=I.hok.fresh (Ah _)
 refine⟨.ref s.heap.objs.size,upd H s.heap.objs.size (SetO X.prog X.w s.heap.objs.size ss),I.laid (t':=tk) (fun b o e=>hk b o (Ap e) e) (Ah _) ⟨hS,?_,fun h1 h2 h3 k=>?_⟩,rfl,q _ ss fr hd⟩
 . obtain⟨o,_,_,_,ho,_⟩:=hS;exact⟨o,ho⟩
 . exact SSet.at h3 k
theorem j6 (hc:X.calm=true):cy X (.builtin "sorted") (fun vs H Q=>∃(a:Addr) (ss:List Str),vs=[.ref a]/\H a=some (SetO X.prog X.w a ss)/\ss.length<64/\
   ∀p zs,H p=none->zs.Perm ss->sortedS zs=true->Q (.ref p) (upd H p (.lst (zs.map V.str)))):=by
 intro pins s σ H vs us Q I r h
 obtain⟨a,ss,rfl,hq,hz,q⟩:=h
 obtain⟨u,rfl,ru⟩:=r.one
 cases ru
 have hS:SSet X.prog X.w s.heap a ss:=(I.hok a _ hq).1
 refine yk (I.ok.hd hc) hS hz fun h' d' tk l ws zs e hk hl hget hs hp hso=>?_
 have fr:H l=none:=I.hok.fresh hl
 have hzl:zs.length<64:=by rw[hp.length_eq];exact hz
 have ok':HOk X.prog X.w (upd H l (.lst (zs.map V.str))) h':=I.hok.laid (a:=l) (o:=.lst (zs.map V.str)) hk hl ⟨by rw[Ac];exact BV (fk (by omega)),ws,e,u9 hs,hget⟩
 have un:Un (frs X.stack) [] H (upd H l (.lst (zs.map V.str))) s.heap h':=Un.laid hk hl fr
 exact⟨.ref l,_,I.call (g':=s.gens) (d':=d') (t':=tk) (ch:=[]) un ok' I.bare (fun b z=>absurd z (by simp)),rfl,q l zs fr hp hso⟩
end
section
variable {P:Program}{w:World}{K:Ab}{mg:Str->Option Value}{base:Heap}{N:List Str}{qual:Str}{scope:Scope}{f:Addr}{cd:Value}{A:Around}{outer:List Env}{s₀:Shared}{H₀:Hp}{E:XK}
end
section
variable {P:Program}{w:World}{K:Ab}{mg:Str->Option Value}{base:Heap}{N:List Str}{qual:Str}{scope:Scope}{f:Addr}{cd:Value}{A:Around}{outer:List Env}{s₀:Shared}{H₀:Hp}{E:XK}
end
section
variable {X:Cx}{E:XK}{x:Str}{C:Addr}{B newId initId:String}{bmB:List Value}{np cpos pos:Pos}{e:Expr}{es:List Expr}{t:TA}
end
section
variable {X:Cx}{pins₀:List (Addr×Obj)}{E:XK}
theorem Inv.track {Y:Cx}{pins:List (Addr×Obj)}{σ:St}{H:Hp}{s:Shared}{a:Addr}{o:HO}(I:Inv Y pins σ H s) (hn:H a=none) (h0:Y.s₀.heap.get? a=none) (hL:a≠Y.env.locals) (hc:∀x c,Y.env.cells.lookup x=some c->c≠a)
   (hp:∀p∈Y.pn++pins,p.1≠a) (ho:ObjOk Y.prog Y.w (upd H a o) s.heap a o):Inv Y pins σ (upd H a o) s:=by
 have keep:∀b u,H b=some u->upd H a o b=some u:=fun b u e=>by rw[ah (ao e hn)];exact e
 refine⟨I.ok,I.os,I.bare,⟨I.base.keep,I.base.slot,fun b ob e n hx=>?_,I.base.there,fun b xs e=>keep b _ (I.base.tups b xs e),fun b ob xs e=>keep b _ (I.base.frzs b ob xs e),fun b ps e=>?_⟩,I.loc,I.cell,?_,fun x c e=>?_,fun p q=>?_,fun b u e=>?_,I.len⟩
 . have:b≠a:=fun z=>by rw[z,h0] at e;cases e
   rw[ah this];exact I.base.free b ob e n hx
 . obtain⟨m,e'⟩:=I.base.tbls b ps e
   exact⟨m,keep b _ e'⟩
 . rw[ah (AO hL)];exact I.free
 . rw[ah (hc x c e)];exact I.freeC x c e
 . obtain⟨p1,p2,p3⟩:=I.pin p q
   exact⟨p1,by rw[ah (hp p q)];exact p2,p3⟩
 . by_cases hb:b=a
   . subst hb;rw[aa] at e;cases e;exact ho
   . rw[ah hb] at e
     exact (I.hok b u e).stay (fun _ _ _ q=>q) (fun c q=>keep c _ q) fun c xs q=>keep c _ q
end
section
variable {X:Cx}{E:XK}{c n:Str}{C:Addr}{i:Nat}{body suite:List Stmt}{b₀:Stmt}{tb ts:TS}{np hpos pos:Pos}
end
open PySem.Builtin PySem.Builtin.ObjectAttr PySem.Builtin.Getset_descriptor
section
variable {prog:Program}{w:World}{A:Around}{E:Value->Shared->Prop}{h:Heap}{g:Array GenState}{d:Drawn}{t:Nat}{os:OsState}{K:Ab}{a C:Addr}{o:Obj}
end
section
variable {X:Cx}
end
mutual
inductive Dp (K:Ab) (H:Hp):V->PyData->Prop
 | non:Dp K H .non .none
 | bl (b:Bool):Dp K H (.bl b) (.bool b)
 | int (i:Int):Dp K H (.int i) (.int i)
 | str (x:Str):Dp K H (.str x) (.str x)
 | lst {a:Addr} {xs:List V} {ds:List PyData}:SqL K H a xs->DpAll K H xs ds->Dp K H (.ref a) (.list ds)
 | tup {a:Addr} {xs:List V} {ds:List PyData}:SqT K H a xs->DpAll K H xs ds->Dp K H (.ref a) (.tuple ds)
inductive DpAll (K:Ab) (H:Hp):List V->List PyData->Prop
 | nil:DpAll K H [] []
 | cons {v:V} {vs:List V} {d:PyData} {ds:List PyData}:Dp K H v d->DpAll K H vs ds->DpAll K H (v::vs) (d::ds)
end
section
variable {X:Cx}{pins:List (Addr×Obj)}{σ:St}{H:Hp}{s:Shared}
mutual
theorem Dp.reads (I:Inv X pins σ H s):∀{v:V}{d:PyData},Dp X.K H v d->∀{u:Value},RelV v u->∃as,Reads s.heap u d as
 | _,_,.non,_,r=>by cases r;exact⟨_,.none⟩
 | _,_,.bl b,_,r=>by cases r;exact⟨_,.bool b⟩
 | _,_,.int i,_,r=>by obtain⟨t,rfl⟩:=r;exact⟨_,.int i t⟩
 | _,_,.str x,_,r=>by obtain⟨t,rfl⟩:=r;exact⟨_,.str x t⟩
 | _,_,.lst hs ha,_,r=>by
   cases r
   obtain⟨its,rv,⟨o,n,e,hc,_,hd⟩,_⟩:=I.list hs
   obtain⟨as,ra⟩:=DpAll.reads I ha rv
   exact⟨_,.list e hc hd (by simpa using ra)⟩
 | _,_,.tup hs ha,_,r=>by
   cases r
   obtain⟨its,rv,⟨o,e,hc,n,hd⟩,_⟩:=I.tuple hs
   obtain⟨as,ra⟩:=DpAll.reads I ha rv
   exact⟨_,.tuple e hc hd (by simpa using ra)⟩
theorem DpAll.reads (I:Inv X pins σ H s):∀{vs:List V}{ds:List PyData},DpAll X.K H vs ds->∀{us:List Value},Vals vs us->∃as,ReadsAll s.heap us ds as
 | _,_,.nil,_,r=>by cases r;exact⟨_,.nil⟩
 | _,_,.cons h1 h2,_,r=>by
   cases r with
   | cons r1 r2 =>
     obtain⟨as,q1⟩:=Dp.reads I h1 r1
     obtain⟨bs,q2⟩:=DpAll.reads I h2 r2
     exact⟨_,.cons q1 q2⟩
end
end
noncomputable def EqOk (d:PyData):Prop:=d.canLay0=true/\d.depth<=16
section
variable {X:Cx}
noncomputable def rNeD (K:Ab):R2:=fun x y H Q=>∃dx dy,Dp K H x dx/\Dp K H y dy/\EqOk dx/\EqOk dy/\Q (.bl (!PyData.eqv dx dy)) H
theorem aa2 (hu:X.A.units+32<cLine):OpR X (compareOp .NotEq) (rNeD X.K):=by
 intro pins s σ H x y v u Q I rx ry h
 obtain⟨dx,dy,h1,h2,o1,o2,q⟩:=h
 obtain⟨as,ra⟩:=Dp.reads I h1 rx
 obtain⟨bs,rb⟩:=Dp.reads I h2 ry
 exact SeqAt.compareNe_reads ra rb o1.1 o2.1 (by have:=o1.2;have:=Nat.min_le_left dx.depth dy.depth;omega) ⟨.bl _,H,I,rfl,q⟩
end
noncomputable def RowAt (K:Ab) (H:Hp) (a:Addr) (r:List Str):Prop:=SqT K H a (r.map V.str)
noncomputable def RowsAt (K:Ab) (H:Hp) (a:Addr) (rs:List (List Str)):Prop:=∃as:List Addr,H a=some (.lst (as.map V.ref))/\Paired (fun b r=>RowAt K H b r) as rs
noncomputable def a9f (K:Ab) (H:Hp) (a:Addr) (rss:List (List (List Str))):Prop:=∃as:List Addr,SqT K H a (as.map V.ref)/\Paired (fun b rs=>RowsAt K H b rs) as rss
theorem Same.seqT {K:Ab}{H H':Hp}{a:Addr}{xs:List V}(e:Same H H') (h:SqT K H a xs):SqT K H' a xs:=by
 rcases h with (h|⟨o,h⟩)|h
 . exact .inl (.inl (e _ _ h))
 . exact .inl (.inr ⟨o,e _ _ h⟩)
 . exact .inr h
theorem RowAt.same {K:Ab}{H H':Hp}{a:Addr}{r:List Str}(h:RowAt K H a r) (e:Same H H'):RowAt K H' a r:=e.seqT h
theorem RowsAt.same {K:Ab}{H H':Hp}{a:Addr}{rs:List (List Str)}(h:RowsAt K H a rs) (e:Same H H'):RowsAt K H' a rs:=by
 obtain⟨as,h1,h2⟩:=h
 exact⟨as,e _ _ h1,Paired.mapP h2 fun b r z=>z.same e⟩
theorem ad {H:Hp}{p:Addr}(h:H p=none) (o:HO):Same H (upd H p o):=fun b u q=>by rw[ah (ao q h)];exact q
noncomputable def uu (K:Ab) (w:World) (a:Addr) (kvs:List (Str×V)):Prop :=
 ∃es n,K.lookup a=some ⟨.type "dict",none,.dict es n,#[]⟩/\FV w.params es.toList/\(a == sysModules)=false/\∀x,RelO (kvs.lookup x) (findBy BU es x)
noncomputable def a6r (X:Cx) (to:TE) (t:TA):TE:=fun σ H Q=>to σ H fun x H1=>∃a kvs,x=.ref a/\uu X.K X.w a kvs/\t σ H1 fun ys H2=>∃z,ys=[.str z]/\Q ((kvs.lookup z).getD .non) H2
section
variable {X:Cx}{o e:Expr}{to:TE}{t:TA}{apos cpos:Pos}
theorem a8r (ho:PE X o to) (ha:PA X [e] t)
   (hbase:attributeBase o "get" X.env (eval o X.env)=eval o X.env:=by rfl)
   (hfew:((backTo cpos (starEach [e] X.env)).all (fun x => !x.1) && (backToKw cpos (keywordEach [] X.env)).all (fun x=>x.1.isSome)
     && decide ([e].length+([]:List Keyword).length+(if ([]:List Keyword).isEmpty then 0 else 1)<30))=true:=by rfl)
   (hline:(apos.endLine == cpos.line)=true:=by rfl) (hs:starEach [e] X.env=(false,eval e X.env)::starEach [] X.env:=by rfl) (hplain:(backTo cpos (starEach [] X.env)).any (·.1)=false:=by rfl) :
   PE X (.Call (.Attribute o "get" apos) [e] [] cpos) (a6r X to t):=by
 intro pins s σ H Q I h
 refine Gf hbase hfew hline rfl (thn (ho pins s σ H _ I h) fun v s1 ⟨x,H1,I1,r1,a,kvs,ex,hd,q1⟩=>?_)
 subst ex
 cases r1
 obtain⟨es,n,hl,hk,hno,hv⟩:=hd
 have mp:∀s':Shared,X.K.In s'.heap->s'.heap.MapOf (strKind X.prog X.w) a (fun k=>findBy BU es k):=fun s' kin=>Iv kin hl hk
 have mp1:=mp s1 I1.kIn
 refine⟨"dict","dict.get",DW,CO,Gy,mp1.typeIs,mp1.noDict,?_⟩
 have hA:=ha cpos pins s1 σ H1 _ I1 q1
 rw[hs] at hA |-
 refine CG (by show (false || (backTo cpos (starEach [] X.env)).any (·.1))=false;rw[hplain]<;>rfl) (Dv ?_)
 refine thn hA fun us s2 ⟨vs,H2,I2,r2,z,ez,q2⟩=>?_
 subst ez
 obtain⟨u,rfl,ru⟩:=r2.one
 obtain⟨t',rfl⟩:=ru
 have mp2:=mp s2 I2.kIn
 refine FE CO mp2.typeIs Ed (PySem.F.args_dict_get_2 _ _) (meets_dict_get (strKind X.prog X.w) a (Fq _ _ z t') hno) ⟨_,mp2,?_⟩
 have hz:=hv z
 refine⟨(kvs.lookup z).getD .non,H2,I2.tok _,?_,q2⟩
 cases e1:kvs.lookup z with
 | none =>
   rw[e1] at hz
   cases e2:findBy BU es z with
   | none=>rfl
   | some u=>rw[e2] at hz;exact hz.elim
 | some v =>
   rw[e1] at hz
   cases e2:findBy BU es z with
   | none=>rw[e2] at hz;exact hz.elim
   | some u=>rw[e2] at hz;exact hz
end
open PySem.Builtin.Str
noncomputable def cutS (z:Str) (lo hi:Option Int):Str:=⟨((z.cps.toList.drop (HT.sIx z.length 0 lo)).take (HT.sIx z.length z.length hi - HT.sIx z.length 0 lo)).toArray⟩
theorem qy (n d:Nat) (hd:d<=n) (v:Option Int) (hv:∀i,v=some i -> -(n:Int)<=i\/0<=i\/True):HT.sIx n d v<=n:=by
 cases v with
 | none=>exact hd
 | some i =>
   show (if i<0 then (i+(n:Int)).toNat else min i.toNat n)<=n
   split<;>omega
theorem vv (n d:Nat) (hd:d<=n) (v:Option Int):(match v with|none=>(d:Int)|some i=>max 0 (min (if i<0 then i+(n:Int) else i) (n:Int)))=((HT.sIx n d v:Nat):Int):=by
 cases v with
 | none=>rfl
 | some i =>
   show max 0 (min (if i<0 then i+(n:Int) else i) (n:Int))=((if i<0 then (i+(n:Int)).toNat else min i.toNat n:Nat):Int)
   split<;>omega
theorem yv (lo hi:Option Int) (n:Nat):strSliceIndices lo hi 1 n=(Du (HT.sIx n n hi - HT.sIx n 0 lo)).map (fun k=>HT.sIx n 0 lo+k):=by
 have e1:=vv n 0 (AG _) lo
 have e2:=vv n n (Ah _) hi
 have key:strSliceIndices lo hi 1 n=sliceRange ((HT.sIx n 0 lo:Nat):Int) ((HT.sIx n n hi:Nat):Int) 1:=by
   rw[<- e1,<- e2]
   cases lo<;>cases hi<;>rfl
 rw[key]
 generalize HT.sIx n 0 lo=a
 generalize HT.sIx n n hi=b
 unfold sliceRange
 simp only[show ((1:Int)>0)=True from by simp,if_true]
 by_cases h:(a:Int)<b
 . rw[if_pos h]
   have e3:(((b:Int) - a+1 - 1) / 1).toNat=b - a:=by omega
   rw[e3]
   refine Dy fun k _=>?_
   omega
 . rw[if_neg h]
   have e4:b - a=0:=by omega
   rw[e4]
   rfl
theorem a2t (z:Str) (lo hi:Option Int):((strSliceIndices lo hi 1 z.length).filterMap (z.cps[·]?))=(z.cps.toList.drop (HT.sIx z.length 0 lo)).take (HT.sIx z.length z.length hi - HT.sIx z.length 0 lo):=by
 rw[yv]
 have hz:z.length=z.cps.toList.length:=by simp[Fp]
 have hb:HT.sIx z.length z.length hi<=z.length:=qy _ _ (Ah _) hi fun _ _=>.inr (.inr trivial)
 generalize HT.sIx z.length 0 lo=a at*
 generalize HT.sIx z.length z.length hi=b at*
 by_cases h:a<=b
 . have:=StrLaws.picks z.cps.toList (b - a) a (by omega)
   simpa using this
 . have e:b - a=0:=by omega
   rw[e]
   simp
section
variable {X:Cx}
noncomputable def rSlS:V->Option Int->Option Int->Hp->VK->Prop:=fun x lo hi H Q=>∃z,x=.str z/\z.length<=sizeLine/\Q (.str (cutS z lo hi)) H
theorem wm:SlR X rSlS:=by
 intro pins s σ H x v vl vu lo hi sl Q I rx hs pl pu h
 obtain⟨z,rfl,hz,q⟩:=h
 obtain⟨t,rfl⟩:=rx
 refine⟨"str",_,PySem.F.slot_str_getitem.lookup,Hb s z t,?_⟩
 obtain⟨l,hl,el⟩:∃l:Option (Int×Tok),partValue l=vl/\l.map (·.1)=lo:=by
   cases pl with
   | none=>exact⟨none,rfl,rfl⟩
   | int i t=>exact⟨some (i,t),rfl,rfl⟩
 obtain⟨u,hu,eu⟩:∃u:Option (Int×Tok),partValue u=vu/\u.map (·.1)=hi:=by
   cases pu with
   | none=>exact⟨none,rfl,rfl⟩
   | int i t=>exact⟨some (i,t),rfl,rfl⟩
 have hS:s.heap.IsSlice sl l u none:=by
   obtain⟨o,ho,hc,hd⟩:=hs
   exact⟨o,ho,hc,by rw[hd,hl,hu];rfl⟩
 refine getItem_meets (Hb s z t) (by decide) PySem.F.slot_str_getitem PySem.F.entry_str_getitem (PySem.F.args_str_getitem_2 _ _) (meets_str_getitem_slice z t sl l u none (by decide)) ⟨hS,?_⟩
 have epick:slicePicked z l u none=strSliceIndices lo hi 1 z.length:=by
   unfold slicePicked
   rw[el,eu]
   rfl
 have ecut:((slicePicked z l u none).filterMap (z.cps[·]?))=(z.cps.toList.drop (HT.sIx z.length 0 lo)).take (HT.sIx z.length z.length hi - HT.sIx z.length 0 lo):=by rw[epick];exact a2t z lo hi
 unfold sliceMade
 split
 . rename_i hw
   have hlen:(slicePicked z l u none).length=z.length:=by simpa using hw
   have eq:cutS z lo hi=z:=by
     have e1:((z.cps.toList.drop (HT.sIx z.length 0 lo)).take (HT.sIx z.length z.length hi - HT.sIx z.length 0 lo))=z.cps.toList:=by
       rw[epick,yv,Ac,Fm] at hlen
       have hb:HT.sIx z.length z.length hi<=z.length:=qy _ _ (Ah _) hi fun _ _=>.inr (.inr trivial)
       rcases Nat.eq_zero_or_pos z.length with h0|h0
       . have:z.cps.toList=[]:=by
           have:z.cps.toList.length=0:=by simpa [Fp] using h0
           exact AY this
         rw[this];simp
       . have ea:HT.sIx z.length 0 lo=0:=by omega
         have eb:HT.sIx z.length z.length hi=z.length:=by omega
         rw[ea,eb,CW,DM]
         exact Bj (by simp[Fp])
     unfold cutS
     rw[e1]
   rw[eq] at q
   exact⟨.str z,H,I,⟨t,rfl⟩,q⟩
 . show (Made.str _).post _ s
   rw[ecut]
   refine⟨?_,.str (cutS z lo hi),H,I.tok _,⟨_,rfl⟩,q⟩
   refine Ax ?_ hz
   show ((z.cps.toList.drop (HT.sIx z.length 0 lo)).take (HT.sIx z.length z.length hi - HT.sIx z.length 0 lo)).toArray.size<=z.cps.size
   rw[Ar,AS,Ba,AU]
   omega
theorem kf:OpR X (compareOp .In) (fun x y H Q=>∃(c:Nat) (z:Str),x=.str ⟨#[c]⟩/\y=.str z/\Q (.bl (decide (c∈z.cps.toList))) H):=by
 intro pins s σ H x y v u Q I rx ry h
 obtain⟨c,z,rfl,rfl,q⟩:=h
 refine a4m pins s σ H _ _ v u Q I rx ry ⟨_,_,rfl,rfl,?_⟩
 rw[StrLaws.found_one]
 exact q
end
noncomputable def Glob (mg:Str->Option Value) (x:Str) (v:V):Prop:=∃u,mg x=some u/\RelV v u
theorem pe_g {X:Cx}{x:Str}{v:V}{pos:Pos}(h:Glob X.mg x v) (hg:Gl X x:=by rfl) (hd:(x == ("__debug__" : Str))=false:=by decide):PE X (.Name x pos) (tC v):=by
 obtain⟨u,hm,r⟩:=h
 exact a7w hg hm r hd
theorem w6 {sc:Scope}{env:Env}(hfree:∀y∈sc.names,y.2≠.free) (hcell:∀y∈sc.names,y.2≠.cell) (y:Str) (h:(relabel sc env).names.lookup y=some .cell\/(relabel sc env).names.lookup y=some .free):False:=by
 have key:∀k,(relabel sc env).names.lookup y=some k->∃z∈sc.names,z.2=k\/z.2=.free:=fun k e=>by
   have hm:=BG e
   obtain⟨z,hz,ez⟩:=AF.mp hm
   refine⟨z,hz,?_⟩
   obtain⟨n,kk⟩:=z
   dsimp only at ez
   split at ez
   . rename_i hc
     simp only[Cc,beq_iff_eq] at hc
     exact .inr hc.1.1
   . exact .inl (congrArg IP ez)
 rcases h with h|h
 . obtain⟨z,hz,q|q⟩:=key _ h
   . exact hcell z hz q
   . exact hfree z hz q
 . obtain⟨z,hz,q|q⟩:=key _ h
   . exact hfree z hz q
   . exact hfree z hz q
theorem pi {X:Cx}{elt iter:Expr}{x:Str}{px pos:Pos}{ifs:List Expr}{sc:Scope}{wi:TI}{tc:TT}{te:TE}(hi:PI X (.Name x px) iter wi) (hif:∀s H C ex,PTs (blk X [x] s H sc [] C ex) ifs tc) (he:∀s H C ex,PE (blk X [x] s H sc [] C ex) elt te)
   (hc:X.calm=true:=by rfl) (hkind:sc.kind=.function:=by rfl) (hx:sc.names.lookup x=some .local:=by decide +kernel) (hfree:∀y∈sc.names,y.2≠.free:=by decide +kernel) (hcell:∀y∈sc.names,y.2≠.cell:=by decide +kernel)
   (hnames:∀y∈sc.names,y.2=.local->sc.names.lookup y.1=some .local:=by decide +kernel) (hs:∀x,foldedSetIterable iter X.env x=pure x:=by intro _;rfl) :
   PE X (.ListComp elt [⟨.Name x px,iter,ifs,0⟩] sc pos) (qu [] wi tc te) :=
 yx [x] hc hi hif he hkind rfl (by simp) hx (PySem.closureFor_none hfree) hcell hnames (fun y c e=>by simp at e) (fun y h=>(w6 hfree hcell y h).elim) (fun j hj=>by simp at hj) hs
structure JSeq (J:It) (I0:Hp->Prop) (xs:List V):Prop where
 go:∀i H,I0 H->i<xs.length->J.go i H
 stop:∀i H,I0 H->xs.length<=i->J.stop i H
 yld:∀i H x H',i<xs.length->I0 H->J.yld i H x H'->H'=H/\xs[i]? = some x
 stay:∀H H',I0 H->Same H H'->I0 H'
theorem a6g {K:Ab}{a:Addr}{xs:List V}:JSeq (Itt K a) (fun H=>SqT K H a xs) xs where
 go:=fun i H h hi=>⟨xs,xs[i],h,by simp[hi]⟩
 stop:=fun i H h hi=>⟨xs,h,hi⟩
 yld:=fun i H x H' _ h y=>⟨y.1,y.2 xs h⟩
 stay:=fun H H' h e=>e.seqT h
theorem ia {K:Ab}{a:Addr}{xs:List V}:JSeq (Itl K a) (fun H=>SqL K H a xs) xs where
 go:=fun i H h hi=>⟨xs,xs[i],h,by simp[hi]⟩
 stop:=fun i H h hi=>⟨xs,h,hi⟩
 yld:=fun i H x H' _ h y=>⟨y.1,y.2 xs h⟩
 stay:=fun H H' h e=>e.seq h
noncomputable def jx (z:Str):List V:=z.cps.toList.map fun c=>V.str ⟨#[c]⟩
theorem a5z {z:Str}:JSeq (Its z) (fun _=>True) (jx z) where
 go:=fun i H _ hi=>by simpa [jx,Its] using hi
 stop:=fun i H _ hi=>by simpa [jx,Its] using hi
 yld:=fun i H x H' _ _ y=>by
   obtain⟨e,c,hc,rfl⟩:=y
   refine⟨e,?_⟩
   unfold jx
   rw[Ak,BJ,hc];rfl
 stay:=fun _ _ _ _=>trivial
theorem Paired.snocP {α β:Type}{F:α->β->Prop}{x:α}{y:β}:∀{l₁:List α}{l₂:List β},Paired F l₁ l₂->F x y->Paired F (l₁++[x]) (l₂++[y])
 | _,_,.nil,h=>.cons h .nil
 | _,_,.cons h₁ t,h=>.cons h₁ (Paired.snocP t h)
noncomputable def dz (D:Addr) (H H':Hp):Prop:=∀b u,H b=some u->b≠D->H' b=some u
theorem Same.x {H H':Hp}(e:Same H H') (D:Addr):dz D H H':=fun b u q _=>e b u q
theorem a6k {J:It}{H1:Hp}{σ:St}{ix:List Nat}{tc:TT}{te:TE}{Q:VK}{I0:Hp->Prop}(xs:List V) (p:V->Bool) (R:Addr->V->V->Hp->Prop) (hJ:JSeq J I0 xs) (h0:I0 H1) (hz:xs.length<=sizeLine) (hR:∀D x y H H',R D x y H->dz D H H'->R D x y H')
   (hc:∀x∈xs,∀H2,Same H1 H2->∀Q':Bool->Hp->Prop,(∀H3,Same H2 H3->Q' (p x) H3)->tc (some x::bz σ ix) H2 Q')
   (he:∀D,∀x∈xs,p x=true->∀H2,Same H1 H2->H2 D≠none->∀Q':VK,(∀y H3,Same H2 H3->R D x y H3->Q' y H3)->te (some x::bz σ ix) H2 Q')
   (hQ:∀D H' ys,H1 D=none->Same H1 H'->H' D=some (.lst ys)->Paired (fun x y=>R D x y H') (xs.filter p) ys->Q (.ref D) H') :
   lu J H1 σ ix tc te Q:=by
 intro D hD
 have put:∀H ys,Same H1 H->Same H1 (upd H D (.lst ys)):=fun H ys e b u q=>by rw[ah (ao q hD)];exact e b u q
 refine⟨fun i m H=>i<=xs.length/\m=xs.length - i/\Same H1 H/\∃ys,H D=some (.lst ys)/\Paired (fun x y=>R D x y H) ((xs.take i).filter p) ys,⟨xs.length,AG _,rfl,put _ _ (Same.refl _),[],aa,by simpa using Paired.nil⟩,?_⟩
 rintro i m H ⟨hi,rfl,e,ys,hy,hp⟩
 have hI:=hJ.stay _ _ h0 e
 by_cases hlt:i<xs.length
 . refine .inr ⟨hJ.go i H hI hlt,fun x H' hy'=>?_⟩
   obtain⟨rfl,hx⟩:=hJ.yld i H x H' hlt hI hy'
   have hm:x∈xs:=AQ hx
   have ht:xs.take (i+1)=xs.take i++[x]:=by rw[BX,hx];rfl
   have hlen:ys.length<=i:=by
     have h1:=AD hp
     have h2:=Bx p (xs.take i)
     rw[AS] at h2
     omega
   refine hc x hm _ e _ fun H3 e3=>?_
   cases hpx:p x with
   | false =>
     rw[if_neg Af]
     refine⟨xs.length - (i+1),by omega,hlt,rfl,e.trans e3,ys,e3 _ _ hy,?_⟩
     rw[ht,CJ]
     simp only[Ei,hpx,FW,BZ,Bt,if_false]
     exact Paired.mapP hp fun x y z=>hR _ _ _ _ _ z (e3.x D)
   | true =>
     rw[if_pos rfl]
     refine he D x hm hpx _ (e.trans e3) (by rw[e3 _ _ hy];simp) _ fun y H4 e4 hr=>?_
     have e5:dz D H4 (upd H4 D (.lst (ys++[y]))):=fun b u q hb=>by rw[ah hb];exact q
     refine⟨ys,e4 _ _ (e3 _ _ hy),by omega,xs.length - (i+1),by omega,hlt,rfl,put _ _ (e.trans (e3.trans e4)),ys++[y],aa,?_⟩
     rw[ht,CJ]
     simp only[Ei,hpx,FW,if_true]
     exact Paired.snocP (Paired.mapP hp fun x y z=>hR _ _ _ _ _ (hR _ _ _ _ _ z ((e3.trans e4).x D)) e5) (hR _ _ _ _ _ hr e5)
 . have hi':i=xs.length:=by omega
   subst hi'
   refine .inl ⟨hJ.stop _ H hI (Ah _),?_⟩
   rw[BD] at hp
   exact hQ D H ys hD e hy hp
theorem re {α β:Type}{f:α->β}:∀{l:List α}{l':List β},Paired (fun x y=>y=f x) l l'->l'=l.map f
 | _,_,.nil=>rfl
 | _,_,.cons h t=>by rw[h,re t];rfl
theorem ph {J:It}{H1:Hp}{σ:St}{ix:List Nat}{tc:TT}{te:TE}{Q:VK}{I0:Hp->Prop}(xs:List V) (p:V->Bool) (f:V->V) (hJ:JSeq J I0 xs) (h0:I0 H1) (hz:xs.length<=sizeLine)
   (hc:∀x∈xs,∀H2,Same H1 H2->∀Q':Bool->Hp->Prop,(∀H3,Same H2 H3->Q' (p x) H3)->tc (some x::bz σ ix) H2 Q')
   (he:∀x∈xs,p x=true->∀H2,Same H1 H2->∀Q':VK,(∀H3,Same H2 H3->Q' (f x) H3)->te (some x::bz σ ix) H2 Q')
   (hQ:∀D H',H1 D=none->Same H1 H'->H' D=some (.lst ((xs.filter p).map f))->Q (.ref D) H') :
   lu J H1 σ ix tc te Q :=
 a6k xs p (fun _ x y _=>y=f x) hJ h0 hz (fun _ _ _ _ _ h _=>h) hc (fun _ x hx hp H2 e _ Q' q=>he x hx hp H2 e Q' fun H3 e3=>q _ H3 e3 rfl) fun D H' ys hD e hy hp=>hQ D H' hD e (by rw[hy,re hp])
section
variable {κ:Type} [DecidableEq κ]
noncomputable def valV (kvs:List (κ×V)) (k:κ):Option V:=(kvs.find? fun kv=>decide (kv.1=k)).map (·.2)
noncomputable def putK (kvs:List (κ×V)) (k:κ) (v:V):List (κ×V) :=
 if (kvs.any fun kv=>decide (kv.1=k))=true then kvs.map (fun kv=>if kv.1=k then (kv.1,v) else kv) else kvs++[(k,v)]
noncomputable def mw (kvs:List (κ×V)) (k:κ):List (κ×V):=kvs.filter fun kv=>decide (kv.1≠k)
theorem iw {p:κ×V}{r:List (κ×V)}{k:κ}(e:p.1=k):valV (p::r) k=some p.2:=by simp[valV,BC,e]
theorem jw {p:κ×V}{r:List (κ×V)}{k:κ}(e:¬ p.1=k):valV (p::r) k=valV r k:=by simp[valV,BC,e]
theorem pf (k:κ):∀kvs:List (κ×V),(kvs.any fun kv=>decide (kv.1=k))=(valV kvs k).isSome
 | []=>rfl
 | p::r=>by
   rw[Ef]
   by_cases e:p.1=k
   . simp only[iw e,decide_eq_true e,Bool.true_or,Option.isSome_some]
   . rw[jw e,decide_eq_false e,Bool.false_or];exact pf k r
theorem je (kvs:List (κ×V)) (k:κ) (v:V):(putK kvs k v).length<=kvs.length+1:=by
 unfold putK
 split
 . rw[Ac];omega
 . rw[Ag,A0,DD];omega
theorem a66 {kvs:List (κ×V)}{k:κ}(v:V) (h:valV kvs k=none):putK kvs k v=kvs++[(k,v)]:=by
 unfold putK
 rw[pf,h]
 exact if_neg (by decide)
theorem RelO.isSome_eq {o:Option V}{u:Option Value}(r:RelO o u):o.isSome=u.isSome:=by
 cases o with
 | none=>cases u with
   | none=>rfl
   | some _=>exact (show False from r).elim
 | some _=>cases u with
   | none=>exact (show False from r).elim
   | some _=>rfl
theorem RelO.getD {o:Option V}{u:Option Value}{d:V}{d':Value}(r:RelO o u) (rd:RelV d d'):RelV (o.getD d) (u.getD d'):=by
 cases o with
 | none=>cases u with
   | none=>exact rd
   | some _=>exact (show False from r).elim
 | some _=>cases u with
   | none=>exact (show False from r).elim
   | some _=>exact r
theorem KV.val {kvs:List (κ×V)}{vs:List (κ×Value)}(r:KV kvs vs) (k:κ):RelO (valV kvs k) (valueAt vs k):=by
 unfold KV at r
 induction r with
 | nil=>exact True.intro
 | @cons p q ps qs h t ih =>
   obtain⟨h1,h2⟩:=h
   by_cases e:p.1=k
   . have e':q.1=k:=h1.symm.trans e
     have b:valueAt (q::qs) k=some q.2:=by simp[valueAt,BC,e']
     rw[iw e,b];exact h2
   . have e':¬ q.1=k:=fun z=>e (h1.trans z)
     have b:valueAt (q::qs) k=valueAt qs k:=by simp[valueAt,BC,e']
     rw[jw e,b];exact ih
theorem KV.any {kvs:List (κ×V)}{vs:List (κ×Value)}(r:KV kvs vs) (k:κ):(kvs.any fun kv=>decide (kv.1=k))=vs.any fun kv=>decide (kv.1=k):=by
 unfold KV at r
 induction r with
 | nil=>rfl
 | cons h t ih=>rw[Ef,Ef,ih,h.1]
theorem KV.repl {kvs:List (κ×V)}{vs:List (κ×Value)}(r:KV kvs vs) (k:κ) {y:V}{u:Value}(ry:RelV y u) :
   KV (kvs.map fun kv=>if kv.1=k then (kv.1,y) else kv) (vs.map fun kv=>if kv.1=k then (kv.1,u) else kv):=by
 unfold KV at r |-
 induction r with
 | nil=>exact .nil
 | @cons p q ps qs h t ih =>
   rw[AA,AA]
   refine .cons ?_ ih
   obtain⟨h1,h2⟩:=h
   by_cases e:p.1=k
   . rw[if_pos e,if_pos (h1.symm.trans e)];exact⟨h1,ry⟩
   . rw[if_neg e,if_neg (fun z=>e (h1.trans z))];exact⟨h1,h2⟩
theorem KV.put {kvs:List (κ×V)}{vs:List (κ×Value)}(r:KV kvs vs) (k:κ) {y:V}{u:Value}(ry:RelV y u):KV (putK kvs k y) (stored vs k u):=by
 unfold putK stored
 rw[r.any k]
 by_cases e:(vs.any fun kv=>decide (kv.1=k))=true
 . rw[if_pos e,if_pos e];exact r.repl k ry
 . rw[if_neg e,if_neg e];exact IY r ⟨rfl,ry⟩
theorem KV.drop {kvs:List (κ×V)}{vs:List (κ×Value)}(r:KV kvs vs) (k:κ):KV (mw kvs k) (without vs k):=by
 unfold KV at r |-
 unfold mw without
 induction r with
 | nil=>exact .nil
 | @cons p q ps qs h t ih =>
   obtain⟨h1,h2⟩:=h
   rw[Ei,Ei]
   by_cases e:p.1=k
   . have a:¬ decide (p.1≠k)=true:=by simp[e]
     have b:¬ decide (q.1≠k)=true:=by simp[h1.symm.trans e]
     rw[if_neg a,if_neg b];exact ih
   . have e':¬ q.1=k:=fun z=>e (h1.trans z)
     have a:decide (p.1≠k)=true:=by simp[e]
     have b:decide (q.1≠k)=true:=by simp[e']
     rw[if_pos a,if_pos b];exact .cons ⟨h1,h2⟩ ih
theorem KV.keys {kvs:List (κ×V)}{vs:List (κ×Value)}(r:KV kvs vs):kvs.map (·.1)=vs.map (·.1):=by
 unfold KV at r
 induction r with
 | nil=>rfl
 | cons h t ih=>rw[AA,AA,ih,h.1]
theorem KV.length {kvs:List (κ×V)}{vs:List (κ×Value)}(r:KV kvs vs):kvs.length=vs.length:=AD r
theorem a5b (kvs:List (κ×V)) (k:κ):(mw kvs k).length<=kvs.length:=Bx _ _
end
theorem j0 {P:Program}{w:World}{k:Key}{u:Value}(r:RelV (kV k) u):(ci P w).is k u=true:=by
 cases k with
 | inl i=>obtain⟨t,e⟩:=(show ∃t,u=Value.int i t from r);subst e;exact yp P w i t
 | inr x=>obtain⟨t,e⟩:=(show ∃t,u=Value.str x t from r);subst e;exact yf P w x t
theorem uj {P:Program}{w:World}:∀{ks:List Key}{us:List Value},Vals (ks.map kV) us->ItemsAre (ci P w) ks us
 | [],_,r=>by rw[IM] at r;cases r;exact .nil
 | k::ks,_,r=>by
   rw[AA] at r
   cases r with
   | cons h t=>exact .cons (j0 h) (uj t)
abbrev KT (H:Hp):List (List Key×V)->List (List Key×Addr×Value)->Prop:=Paired fun p q=>p.1=q.1/\H q.2.1=some (.tup (p.1.map kV))/\RelV p.2 q.2.2
theorem KT.val {H:Hp}{kvs:List (List Key×V)}{xs:List (List Key×Addr×Value)}(r:KT H kvs xs) (k:List Key):RelO (valV kvs k) ((atKey xs k).map (·.2)):=by
 induction r with
 | nil=>exact True.intro
 | @cons p q ps qs h t ih =>
   obtain⟨h1,_,h2⟩:=h
   by_cases e:p.1=k
   . have e':q.1=k:=h1.symm.trans e
     have b:atKey (q::qs) k=some q.2:=by simp[atKey,BC,e']
     rw[iw e,b];exact h2
   . have e':¬ q.1=k:=fun z=>e (h1.trans z)
     have b:atKey (q::qs) k=atKey qs k:=by simp[atKey,BC,e']
     rw[jw e,b];exact ih
theorem KT.repl {H:Hp}{kvs:List (List Key×V)}{xs:List (List Key×Addr×Value)}(r:KT H kvs xs) (k:List Key) {y:V}{u:Value}(ry:RelV y u) :
   KT H (kvs.map fun kv=>if kv.1=k then (kv.1,y) else kv) (xs.map (putAt k u)):=by
 induction r with
 | nil=>exact .nil
 | @cons p q ps qs h t ih =>
   rw[AA,AA]
   refine .cons ?_ ih
   obtain⟨h1,h2,h3⟩:=h
   unfold putAt
   by_cases e:p.1=k
   . rw[if_pos e,if_pos (h1.symm.trans e)];exact⟨h1,h2,ry⟩
   . rw[if_neg e,if_neg (fun z=>e (h1.trans z))];exact⟨h1,h2,h3⟩
theorem KT.put {H:Hp}{kvs:List (List Key×V)}{xs:List (List Key×Addr×Value)}(r:KT H kvs xs) (k:List Key) {b:Addr}{y:V}{u:Value}(hb:H b=some (.tup (k.map kV))) (ry:RelV y u) :
   KT H (putK kvs k y) (storedH xs k b u):=by
 have e:(kvs.any fun kv=>decide (kv.1=k))=(atKey xs k).isSome:=by
   rw[pf,(r.val k).isSome_eq,Fn]
 unfold putK storedH
 rw[e]
 by_cases q:(atKey xs k).isSome=true
 . rw[if_pos q,if_pos q];exact r.repl k ry
 . rw[if_neg q,if_neg q];exact IY r ⟨rfl,hb,ry⟩
theorem KT.keeps {H H':Hp}{kvs:List (List Key×V)}{xs:List (List Key×Addr×Value)}(r:KT H kvs xs) (ht:∀b ys,H b=some (.tup ys)->H' b=some (.tup ys)):KT H' kvs xs :=
 Paired.mapP r fun _ _ z=>⟨z.1,ht _ _ z.2.1,z.2.2⟩
section
variable {P:Program}{w:World}{H:Hp}{h:Heap}{a:Addr}
theorem a70 {u:HO}(ok:HOk P w H h) (e:Rd H a u):ObjOk P w H h a u:=e.ok ok
theorem gt {kvs:List (Key×V)}(ok:HOk P w H h) (e:Rd H a (.dK kvs)):kvs.length<=sizeLine/\(a == sysModules)=false/\∃vs,KV kvs vs/\h.DictOf (ci P w) a vs :=
 show ObjOk P w H h a (.dK kvs) from a70 ok e
theorem uw {kvs:List (Key×V)}(ok:HOk P w H h) (e:H a=some (.dK kvs)):kvs.length<=sizeLine/\(a == sysModules)=false/\∃vs,KV kvs vs/\h.DictOf (ci P w) a vs:=gt ok (.inl e)
theorem jo {ks:List Key}(ok:HOk P w H h) (e:H a=some (.tup (ks.map kV))):(tupleKind (ci P w)).is h ks a:=by
 obtain⟨_,its,r,o,h1,h2,n,h3⟩:=(show ObjOk P w H h a (.tup (ks.map kV)) from ok a _ e)
 exact⟨o,its.toArray,n,h1,h2,h3,by simpa using uj r⟩
theorem km {kvs:List (List Key×V)}(ok:HOk P w H h) (e:Rd H a (.dT kvs)):kvs.length<=sizeLine/\(a == sysModules)=false/\
   ∃xs,KT H kvs xs/\h.DictOfH (tupleKind (ci P w)) a xs:=by
 obtain⟨z,y,xs,r,o,es,ep,h1,h2,h3,h4,h5⟩:=(show ObjOk P w H h a (.dT kvs) from a70 ok e)
 refine⟨z,y,xs,r,o,es,ep,h1,h2,h3,h4,fun x hx=>?_,h5⟩
 have all:∀{l:List (List Key×V)} {m:List (List Key×Addr×Value)},KT H l m->∀x∈m,(tupleKind (ci P w)).is h x.1 x.2.1:=by
   intro l m q
   induction q with
   | nil=>intro x hx;exact nomatch hx
   | @cons p q ps qs hq t ih =>
     intro x hx
     rcases Al.mp hx with e|hx
     . subst e
       exact jo ok (by rw[<- hq.1];exact hq.2.1)
     . exact ih x hx
 exact all r x hx
theorem aag {kvs:List (List Key×V)}(ok:HOk P w H h) (e:H a=some (.dT kvs)):kvs.length<=sizeLine/\(a == sysModules)=false/\
   ∃xs,KT H kvs xs/\h.DictOfH (tupleKind (ci P w)) a xs:=km ok (.inl e)
end
noncomputable def DGet (H:Hp) (a:Addr) (y:V) (r:Option V):Prop :=
 (∃kvs k,Rd H a (.dK kvs)/\y=kV k/\r=valV kvs k)\/∃kvs k b,Rd H a (.dT kvs)/\y=.ref b/\H b=some (.tup (k.map kV))/\r=valV kvs k
noncomputable def DPut (H:Hp) (a:Addr) (y v:V) (H':Hp):Prop :=
 (∃kvs k,H a=some (.dK kvs)/\y=kV k/\kvs.length<sizeLine/\H'=upd H a (.dK (putK kvs k v)))\/
 ∃kvs k b,H a=some (.dT kvs)/\y=.ref b/\H b=some (.tup (k.map kV))/\kvs.length<sizeLine/\H'=upd H a (.dT (putK kvs k v))
theorem DGet.k {H:Hp}{a:Addr}{kvs:List (Key×V)}{k:Key}(e:H a=some (.dK kvs)):DGet H a (kV k) (valV kvs k):=.inl ⟨kvs,k,.inl e,rfl,rfl⟩
theorem DPut.k {H:Hp}{a:Addr}{kvs:List (Key×V)}{k:Key}{v:V}(e:H a=some (.dK kvs)) (hl:kvs.length<sizeLine):DPut H a (kV k) v (upd H a (.dK (putK kvs k v))):=.inl ⟨kvs,k,e,rfl,hl,rfl⟩
section
variable {X:Cx}{pins:List (Addr×Obj)}{σ:St}{H:Hp}{s:Shared}{a:Addr}{y v:V}{u r:Value}{o:Option V}{A:Around}{E:Value->Shared->Prop}
theorem Inv.big (I:Inv X pins σ H s):sysModules<s.heap.objs.size:=by
 have h:mainGlobals<s.heap.objs.size:=(I.mod.glob.keeps I.bk).lt
 exact Nat.lt_trans (by decide) h
theorem a1v {Q:Value->Shared->Prop}(hu:A.units+1<cLine) (I:Inv X pins σ H s) (g:DGet H a y (some v)) (ry:RelV y u) (h:∀w' s',Inv X pins σ H s'->RelV v w'->Q w' s') :
   wpAny (model X.prog X.w) A (getItem (.ref a) u) Q E s:=by
 rcases g with⟨kvs,k,e,ey,l⟩|⟨kvs,k,b,e,ey,eb,l⟩
 . subst ey
   obtain⟨z,hd,vs,rel,dd⟩:=gt I.hok e
   obtain⟨w',hw,rw'⟩:=RelO.some_of (v:=v) (o:=valueAt vs k) (by rw[l];exact rel.val k)
   exact Ig (j0 ry) dd.mapOf hw (h w' _ (I.tok _) rw')
 . subst ey
   cases (show u=Value.ref b from ry)
   obtain⟨z,hd,xs,rel,dd⟩:=km I.hok e
   obtain⟨w',hw,rw'⟩:=RelO.some_of (v:=v) (o:=(atKey xs k).map (·.2)) (by rw[l];exact rel.val k)
   obtain⟨p,hp,hp2⟩:=Be.mp hw
   refine wpAny_getItem_heap (Dh hu) (jo I.hok eb) dd hp ?_
   rw[hp2]
   exact h w' _ (I.tok _) rw'
theorem d_in {Q:Value->Shared->Prop}(hu:A.units+1<cLine) (I:Inv X pins σ H s) (g:DGet H a y o) (ry:RelV y u) (h:∀s',Inv X pins σ H s'->Q (.bool o.isSome) s') :
   wpAny (model X.prog X.w) A (compareOp .In u (.ref a)) Q E s:=by
 rcases g with⟨kvs,k,e,ey,l⟩|⟨kvs,k,b,e,ey,eb,l⟩
 . subst ey
   obtain⟨z,hd,vs,rel,dd⟩:=gt I.hok e
   refine wpAny_in_of (j0 ry) hd dd.mapOf ?_
   rw[<- (rel.val k).isSome_eq,<- l]
   exact h _ (I.tok _)
 . subst ey
   cases (show u=Value.ref b from ry)
   obtain⟨z,hd,xs,rel,dd⟩:=km I.hok e
   refine wpAny_in_heap (Dh hu) (jo I.hok eb) hd dd ?_
   have q:=(rel.val k).isSome_eq
   rw[Fn] at q
   rw[<- q,<- l]
   exact h _ (I.tok _)
theorem a8g {Q:Value->Shared->Prop}(hu:A.units+1<cLine) (I:Inv X pins σ H s) (g:DGet H a y o) (ry:RelV y u) (h:∀s',Inv X pins σ H s'->Q (.bool (!o.isSome)) s') :
   wpAny (model X.prog X.w) A (compareOp .NotIn u (.ref a)) Q E s:=by
 rcases g with⟨kvs,k,e,ey,l⟩|⟨kvs,k,b,e,ey,eb,l⟩
 . subst ey
   obtain⟨z,hd,vs,rel,dd⟩:=gt I.hok e
   refine wpAny_notIn_of (j0 ry) hd dd.mapOf ?_
   rw[<- (rel.val k).isSome_eq,<- l]
   exact h _ (I.tok _)
 . subst ey
   cases (show u=Value.ref b from ry)
   obtain⟨z,hd,xs,rel,dd⟩:=km I.hok e
   refine wpAny_notIn_heap (Dh hu) (jo I.hok eb) hd dd ?_
   have q:=(rel.val k).isSome_eq
   rw[Fn] at q
   rw[<- q,<- l]
   exact h _ (I.tok _)
theorem nj {h':Heap}{t':Nat}{ob:HO}(I:Inv X pins σ H s) (mu:Mut (H a)) (hs:Ct a s.heap h') (he:∃q,h'.get? a=some q) (new:ObjOk X.prog X.w (upd H a ob) h' a ob) :
   Inv X pins σ (upd H a ob) { s with heap:=h',toks:=t' } :=
 I.write (x:=a) (e:=a) mu (.inl rfl) (fun b q hb z=>(hs.2 b hb).trans z) he new
theorem qx {P:Program}{w:World}{H':Hp}{h':Heap}{kvs:List (Key×V)}{vs:List (Key×Value)}(z:kvs.length<=sizeLine) (hd:(a == sysModules)=false) (rel:KV kvs vs) (dd:h'.DictOf (ci P w) a vs) :
   ObjOk P w H' h' a (.dK kvs):=⟨z,hd,vs,rel,dd⟩
theorem a3i {H':Hp}{Q:Unit->Shared->Prop}(hu:A.units+1<cLine) (I:Inv X pins σ H s) (g:DPut H a y v H') (ry:RelV y u) (rv:RelV v r) (h:∀s',Inv X pins σ H' s'->Q () s') :
   wpAny (model X.prog X.w) A (setItem (.ref a) u r) Q E s:=by
 rcases g with⟨kvs,k,e,ey,l,eH⟩|⟨kvs,k,b,e,ey,eb,l,eH⟩
 . subst ey eH
   obtain⟨z,hd,vs,rel,dd⟩:=uw I.hok e
   have hz:vs.length<=sizeLine:=by rw[<- rel.length];exact z
   have hl:(putK kvs k v).length<=sizeLine:=by have:=je kvs k v;omega
   refine wpAny_setItem_pairs (hsz:=hz) (j0 ry) dd fun h' dd' hs=>h _ ?_
   have he:∃q,h'.get? a=some q:=let ⟨q,_,_,hq,_⟩:=dd';⟨q,hq⟩
   exact nj I (by rw[e];exact True.intro) hs he (qx hl hd (rel.put k rv) dd')
 . subst ey eH
   cases (show u=Value.ref b from ry)
   obtain⟨z,hd,xs,rel,dd⟩:=aag I.hok e
   have hz:xs.length<=sizeLine:=by rw[<- AD rel];exact z
   have hl:(putK kvs k v).length<=sizeLine:=by have:=je kvs k v;omega
   refine wpAny_setItem_heap (hsz:=hz) (Dh hu) (jo I.hok eb) dd fun h' dd' hs=>h _ ?_
   obtain⟨q,es,ep,hq,h2,h3,h4,_,h5⟩:=dd'
   refine nj I (by rw[e];exact True.intro) hs ⟨q,hq⟩ ⟨hl,hd,_,(rel.put k eb rv).keeps fun c ys ec=>?_,q,es,ep,hq,h2,h3,h4,h5⟩
   rw[ah (aav ec e (fun z=>nomatch z))]
   exact ec
end
section
variable {X:Cx}{pins:List (Addr×Obj)}{σ:St}{H:Hp}{s:Shared}{a:Addr}{kvs:List (Key×V)}{k:Key}{u:Value}{A:Around}{E:Value->Shared->Prop}
theorem aap {v:V}{more:List Value}{Q:Value->Shared->Prop}(I:Inv X pins σ H s) (e:H a=some (.dK kvs)) (ry:RelV (kV k) u) (l:valV kvs k=some v) (hm:more=[]\/∃x,more=[x])
   (h:∀w' s',Inv X pins σ (upd H a (.dK (mw kvs k))) s'->RelV v w'->Q w' s'):wpAny (model X.prog X.w) A (call (.builtin "dict.pop") (.ref a::u::more)) Q E s:=by
 obtain⟨z,hd,vs,rel,dd⟩:=uw I.hok e
 obtain⟨w',hw,rw'⟩:=RelO.some_of (v:=v) (o:=valueAt vs k) (by rw[<- l];exact rel.val k)
 have hp:(keyPart u).isSome=true:=by
   cases k with
   | inl i=>obtain⟨t,q⟩:=(show ∃t,u=Value.int i t from ry);subst q;rfl
   | inr x=>obtain⟨t,q⟩:=(show ∃t,u=Value.str x t from ry);subst q;rfl
 have ha:argsOk "dict.pop" ⟨.ref a::u::more,[]⟩:=by
   rcases hm with q|⟨x,q⟩
   . subst q;exact PySem.F.args_dict_pop_2 _ _
   . subst q;exact PySem.F.args_dict_pop_3 _ _ _
 refine FE Gz dd.typeIs PySem.F.entry_dict_pop ha (meets_dict_pop_there (ci X.prog X.w) a (j0 ry) more hm hp)
   ⟨vs,w',dd,by rw[<- rel.length];exact z,hw,fun h' dd' hs=>h w' _ ?_ rw'⟩
 have he:∃q,h'.get? a=some q:=let ⟨q,_,_,hq,_⟩:=dd';⟨q,hq⟩
 exact nj I (by rw[e];exact True.intro) hs he (qx (Ax (a5b kvs k) z) hd (rel.drop k) dd')
end
noncomputable def NoSl (i:Expr):Prop:=∀ov iv,subscripted i false ov iv=operate [ov,iv] (getItem ov iv)
theorem zr {prog:Program}{w:World}{A:Around}{E:Value->Shared->Prop}{s:Shared}{env:Env}{value slice:Expr}{pos:Pos}{T id:String}{Q:Value->Shared->Prop}
   (hl:typeLookup (.type T) "__getitem__" = pure (some (.builtin id))) (hs:NoSl slice)
   (h:wpAny (model prog w) A (eval value env) (fun o s₁=>wpAny (model prog w) A (eval slice env) (fun i s₂=>s₂.TypeIs o T/\wpAny (model prog w) A (getItem o i) Q E s₂) E s₁) E s) :
   wpAny (model prog w) A (eval (.Subscript value slice pos) env) Q E s:=by
 refine Subscript_ (BR h (fun o s₁ h₁=>BR h₁ (fun i s₂ h₂=>?_) fun _ _ x=>x) fun _ _ x=>x)
 obtain⟨hT,h₂⟩:=h₂
 unfold subscriptTail
 refine Aa ?_
 rw[getitemInPython_of_ne hT.not_modules]
 refine Aa (FU hT hl ?_)
 have fin:wpAny (model prog w) A (subscripted slice false o i) (fun r s₃=>wpAny (model prog w) A (letTemporaryGo value o r >>= fun _=>pure r) Q E s₃) E s₂:=by
   rw[hs o i]
   exact wpAny_operating (BR h₂ (fun r s₃ h₃=>Aa (wpAny_letTemporaryGo (Ae h₃))) fun _ _ x=>x)
 first
   | exact Ae (Aa fin)
   | exact Aa (Ae (Aa fin))
   | exact Aa fin
theorem ye {X:Cx}{pins:List (Addr×Obj)}{σ:St}{H:Hp}{s:Shared}{a:Addr}{y:V}{o:Option V}(I:Inv X pins σ H s) (g:DGet H a y o):s.TypeIs (.ref a) "dict" := by
 rcases g with⟨kvs,k,e,_,_⟩|⟨kvs,k,b,e,_,_,_⟩
 . obtain⟨_,_,vs,_,dd⟩:=gt I.hok e
   exact dd.typeIs
 . obtain⟨_,_,xs,_,dd⟩:=km I.hok e
   exact dd.typeIs
noncomputable def a6v (td ty:TE):TE:=fun σ H Q=>td σ H fun x H1=>ty σ H1 fun y H2=>∃a v,x=.ref a/\DGet H2 a y (some v)/\Q v H2
noncomputable def tDIn (ty td:TE):TE:=fun σ H Q=>ty σ H fun y H1=>td σ H1 fun x H2=>∃a o,x=.ref a/\DGet H2 a y o/\Q (.bl o.isSome) H2
noncomputable def zy (ty td:TE):TE:=fun σ H Q=>ty σ H fun y H1=>td σ H1 fun x H2=>∃a o,x=.ref a/\DGet H2 a y o/\Q (.bl (!o.isSome)) H2
noncomputable def ju (td ty tv:TE):TS:=fun D σ H=>tv σ H fun v H1=>td σ H1 fun x H2=>ty σ H2 fun y H3=>∃a H4,x=.ref a/\DPut H3 a y v H4/\D.nx σ H4
section
variable {X:Cx}{o i e value:Expr}{pos pos' tpos:Pos}{td ty tv:TE}
theorem a7s (hu:X.A.units+1<cLine) (ho:PE X o td) (hi:PE X i ty) (hs:NoSl i):PE X (.Subscript o i pos) (a6v td ty):=by
 intro pins s σ H Q I h
 refine zr Ft.lookup hs (thn (ho pins s σ H _ I h) fun u s1 ⟨x,H1,I1,rx,q1⟩=>thn (hi pins s1 σ H1 _ I1 q1) fun iv s2 ⟨y,H2,I2,ry,a,v,ex,g,q2⟩=>?_)
 subst ex
 obtain rfl:u=Value.ref a:=rx
 exact⟨ye I2 g,a1v hu I2 g ry fun w' s3 I3 rw'=>⟨v,H2,I3,rw',q2⟩⟩
theorem a9b (hu:X.A.units+1<cLine) (hi:PE X i ty) (ho:PE X o td):PC X .In i o (tDIn ty td):=by
 intro pins s σ H Q I h
 refine thn (hi pins s σ H _ I h) fun iv s1 ⟨y,H1,I1,ry,q1⟩=>thn (ho pins s1 σ H1 _ I1 q1) fun u s2 ⟨x,H2,I2,rx,a,ov,ex,g,q2⟩=>?_
 subst ex
 obtain rfl:u=Value.ref a:=rx
 exact d_in hu I2 g ry fun s3 I3=>⟨.bl ov.isSome,H2,I3,rfl,q2⟩
theorem a2r (hu:X.A.units+1<cLine) (hi:PE X i ty) (ho:PE X o td):PC X .NotIn i o (zy ty td):=by
 intro pins s σ H Q I h
 refine thn (hi pins s σ H _ I h) fun iv s1 ⟨y,H1,I1,ry,q1⟩=>thn (ho pins s1 σ H1 _ I1 q1) fun u s2 ⟨x,H2,I2,rx,a,ov,ex,g,q2⟩=>?_
 subst ex
 obtain rfl:u=Value.ref a:=rx
 exact a8g hu I2 g ry fun s3 I3=>⟨.bl (!ov.isSome),H2,I3,rfl,q2⟩
theorem a7r (hu:X.A.units+1<cLine) (ho:PE X o td) (hi:PE X i ty) (hv:PE X value tv) (hs:swapsWith value (some (.Subscript o i pos')) pos.line X.env=pure false) :
   PS X (.Assign [.Subscript o i pos'] value pos) (ju td ty tv):=by
 intro pins s σ H D I h
 refine wpAny_Assign_Subscript (thn (hv pins s σ H _ I h) fun r s1 ⟨v,H1,I1,rv,q1⟩=>thn (ho pins s1 σ H1 _ I1 q1) fun u s2 ⟨x,H2,I2,rx,q2⟩=>thn (hi pins s2 σ H2 _ I2 q2) fun iv s3 ⟨y,H3,I3,ry,a,H4,ex,g,q3⟩=>?_) hs
 subst ex
 obtain rfl:u=Value.ref a:=rx
 exact a3i hu I3 g ry rv fun s4 I4=>⟨σ,H4,I4,q3⟩
end
theorem xu {P:Program}{w:World}{H:Hp}(h:Heap) (hb:sysModules<h.objs.size):ObjOk P w H (h.push { cls:=.type "dict",data:=.dict #[] }) h.objs.size (.dK []) :=
 ⟨AG _,beq_eq_false_iff_ne.mpr (AO (Az hb)),[],.nil,Heap.DictOf.new h⟩
noncomputable def a3w:TE:=fun _ H Q=>∀p,H p=none->Q (.ref p) (upd H p (.dK []))
section
variable {X:Cx}{pos:Pos}
theorem a5h:PE X (.Dict [] [] pos) a3w:=fun pins s σ H Q I h =>
 wpAny_Dict_empty ⟨.ref s.heap.objs.size,_,I.laid (a:=s.heap.objs.size) (o:=.dK []) (t':=s.toks) (fun _ _ q=>Ad _ q) (Ah _) (xu s.heap I.big),rfl,h _ (I.hok.fresh (Ah _))⟩
end
structure M1 (X:Cx) (o:Expr) (m:Str) (apos:Pos) (e:Expr) (cpos:Pos):Prop where
 base:attributeBase o m X.env (eval o X.env)=eval o X.env
 few:((backTo cpos (starEach [e] X.env)).all (fun x => !x.1) && (backToKw cpos (keywordEach [] X.env)).all (fun x=>x.1.isSome)
   && decide (([e]:List Expr).length+([]:List Keyword).length+(if ([]:List Keyword).isEmpty then 0 else 1)<30))=true
 line:(apos.endLine == cpos.line)=true
 trees:backTo cpos (starEach [e] X.env)=[(false,eval e X.env)]
structure M2 (X:Cx) (o:Expr) (m:Str) (apos:Pos) (e f:Expr) (cpos:Pos):Prop where
 base:attributeBase o m X.env (eval o X.env)=eval o X.env
 few:((backTo cpos (starEach [e,f] X.env)).all (fun x => !x.1) && (backToKw cpos (keywordEach [] X.env)).all (fun x=>x.1.isSome)
   && decide (([e,f]:List Expr).length+([]:List Keyword).length+(if ([]:List Keyword).isEmpty then 0 else 1)<30))=true
 line:(apos.endLine == cpos.line)=true
 trees:backTo cpos (starEach [e,f] X.env)=[(false,eval e X.env),(false,eval f X.env)]
noncomputable def IsD (H:Hp) (a:Addr):Prop:=(∃kvs,Rd H a (.dK kvs))\/∃kvs,Rd H a (.dT kvs)
theorem a4b {X:Cx}{pins:List (Addr×Obj)}{σ:St}{H:Hp}{s:Shared}{a:Addr}(I:Inv X pins σ H s) (d:IsD H a) :
   s.TypeIs (.ref a) "dict" /\ (∀b,Value.ref a=.ref b->∃ob,s.heap.get? b=some ob/\ob.dict=none)/\(a == sysModules)=false:=by
 rcases d with⟨kvs,e⟩|⟨kvs,e⟩
 . obtain⟨_,hd,vs,_,dd⟩:=gt I.hok e
   refine⟨dd.typeIs,fun b q=>?_,hd⟩
   cases q
   obtain⟨ob,_,_,h1,h2,_⟩:=dd
   exact⟨ob,h1,h2.2.1⟩
 . obtain⟨_,hd,xs,_,dd⟩:=km I.hok e
   refine⟨dd.typeIs,fun b q=>?_,hd⟩
   cases q
   obtain⟨ob,_,_,h1,h2,_⟩:=dd
   exact⟨ob,h1,h2.2.1⟩
section
variable {X:Cx}{pins:List (Addr×Obj)}{σ:St}{H:Hp}{s:Shared}{a:Addr}{y d:V}{u r:Value}{o:Option V}{A:Around}{E:Value->Shared->Prop}
theorem aa5 {Q:Value->Shared->Prop}(hu:A.units+1<cLine) (I:Inv X pins σ H s) (g:DGet H a y o) (ry:RelV y u) (rd:RelV d r) (h:∀w' s',Inv X pins σ H s'->RelV (o.getD d) w'->Q w' s') :
   wpAny (model X.prog X.w) A (call (.builtin "dict.get") [.ref a,u,r]) Q E s:=by
 rcases g with⟨kvs,k,e,ey,l⟩|⟨kvs,k,b,e,ey,eb,l⟩
 . subst ey
   obtain⟨z,hd,vs,rel,dd⟩:=gt I.hok e
   refine FE CO dd.typeIs Ed (FL _ _ _) (meets_dict_get_default (ci X.prog X.w) a (j0 ry) hd r) ⟨_,dd.mapOf,h _ _ (I.tok _) ?_⟩
   rw[l]
   exact (rel.val k).getD rd
 . subst ey
   cases (show u=Value.ref b from ry)
   obtain⟨z,hd,xs,rel,dd⟩:=km I.hok e
   refine FE CO dd.typeIs Ed (FL _ _ _) (meetsH_dict_get_default (tupleKind (ci X.prog X.w)) a b hd r) ⟨Dh hu,k,xs,jo I.hok eb,dd,h _ _ (I.tok _) ?_⟩
   rw[l]
   exact (rel.val k).getD rd
end
noncomputable def a2p (td ty tx:TE):TE:=fun σ H Q=>td σ H fun x H1=>∃a,x=.ref a/\IsD H1 a/\ty σ H1 fun y H2=>tx σ H2 fun z H3=>∃o,DGet H3 a y o/\Q (o.getD z) H3
noncomputable def a3k (td ty:TE):TE:=fun σ H Q=>td σ H fun x H1=>∃a,x=.ref a/\IsD H1 a/\ty σ H1 fun y H2=>∃kvs k v,H2 a=some (.dK kvs)/\y=kV k/\valV kvs k=some v/\Q v (upd H2 a (.dK (mw kvs k)))
section
variable {X:Cx}{o e f:Expr}{apos cpos:Pos}{td ty tx:TE}
theorem a4y (hu:X.A.units+1<cLine) (ho:PE X o td) (he:PE X e ty) (hf:PE X f tx) (m:M2 X o "get" apos e f cpos):PE X (.Call (.Attribute o "get" apos) [e,f] [] cpos) (a2p td ty tx):=by
 intro pins s σ H Q I h
 refine HU m.base m.few m.line DW CO Gy (thn (ho pins s σ H _ I h) fun u s1 ⟨x,H1,I1,rx,a,ex,d,q1⟩=>?_)
 subst ex
 obtain rfl:u=Value.ref a:=rx
 obtain⟨t1,t2,_⟩:=a4b I1 d
 refine⟨t1,t2,?_⟩
 rw[m.trees]
 refine CG rfl (Dv (DH (thn (he pins s1 σ H1 _ I1 q1) fun iv s2 ⟨y,H2,I2,ry,q2⟩ =>
   DH (thn (hf pins s2 σ H2 _ I2 q2) fun fv s3 ⟨z,H3,I3,rz,ov,g,q3⟩=>Fh ?_))))
 exact aa5 hu I3 g ry rz fun w' s4 I4 rw'=>⟨_,H3,I4,rw',q3⟩
theorem a6a (ho:PE X o td) (he:PE X e ty) (m:M1 X o "pop" apos e cpos):PE X (.Call (.Attribute o "pop" apos) [e] [] cpos) (a3k td ty):=by
 intro pins s σ H Q I h
 refine HU m.base m.few m.line DW Gz PySem.F.type_dict_pop (thn (ho pins s σ H _ I h) fun u s1 ⟨x,H1,I1,rx,a,ex,d,q1⟩=>?_)
 subst ex
 obtain rfl:u=Value.ref a:=rx
 obtain⟨t1,t2,_⟩:=a4b I1 d
 refine⟨t1,t2,?_⟩
 rw[m.trees]
 refine CG rfl (Dv (DH (thn (he pins s1 σ H1 _ I1 q1) fun iv s2 ⟨y,H2,I2,ry,kvs,k,v,ea,ey,l,q2⟩=>Fh ?_)))
 subst ey
 exact aap I2 ea ry l (.inl rfl) fun w' s3 I3 rw'=>⟨v,_,I3,rw',q2⟩
end
section
variable {X:Cx}{pins:List (Addr×Obj)}{σ:St}{H:Hp}{s:Shared}{a:Addr}{kvs:List (Key×V)}{A:Around}{E:Value->Shared->Prop}
theorem a60 {Q:Value->Shared->Prop}(I:Inv X pins σ H s) (e:Rd H a (.dK kvs)) (h:∀p s',H p=none->Inv X pins σ (upd H p (.dK kvs)) s'->Q (.ref p) s'):wpAny (model X.prog X.w) A (call (.type "dict") [.ref a]) Q E s:=by
 obtain⟨z,hd,vs,rel,dd⟩:=gt I.hok e
 refine kt_call_dict hd dd (by rw[<- rel.length];exact z) fun h' dd' hs=>?_
 refine h _ _ (I.hok.fresh (Ah _)) (I.laid (a:=s.heap.objs.size) (o:=.dK kvs) (t':=s.toks) (fun b q hq=>?_) (Ah _) (qx z (beq_eq_false_iff_ne.mpr (AO (Az I.big))) rel dd'))
 exact (hs.2 b (Az (Ap hq))).trans (Ad _ hq)
end
section
variable {X:Cx}{pins:List (Addr×Obj)}{σ:St}{H:Hp}{s:Shared}{a:Addr}{y:V}{u:Value}{A:Around}{E:Value->Shared->Prop}
end
section
variable {X:Cx}
end
section
variable {κ:Type} [DecidableEq κ]
end
section
variable {X:Cx}
end
section
variable {X:Cx}{es es1:List Expr}{t t1:TA}{te:TE}{x:Str}{j:Nat}{pos pos2:Pos}
theorem a9w {j} (hr:PA X es t):PA X (.Constant (.str x) j pos::es) (br (tC (.str x)) t):=cu wz hr rfl
theorem a9a {i:Int}{j} (hr:PA X es t):PA X (.Constant (.int i) j pos::es) (br (tC (.int i)) t):=cu jl hr rfl
theorem ab1 {b:Bool}{j} (hr:PA X es t):PA X (.Constant (.bool b) j pos::es) (br (tC (.bl b)) t):=cu a0q hr rfl
theorem aan (h:PE X (.Name x pos) te) (hr:PA X es t):PA X (.Name x pos::es) (br te t):=cu h hr rfl
theorem aai {x1} (h:PA X es1 t1) (hr:PA X es t):PA X (.Tuple es1 x1 pos::es) (br (tTup t1) t):=cu (a3l h) hr rfl
theorem aau (h:PA X es1 t1) (hr:PA X es t):PA X (.List es1 pos::es) (br (tLst t1) t):=cu (yd h) hr rfl
theorem a9t {a b:Expr}(h:PE X (.Subscript a b pos) te) (hr:PA X es t):PA X (.Subscript a b pos::es) (br te t):=cu h hr rfl
theorem a7q {f:Expr}{as:List Expr}{ks:List Keyword}(h:PE X (.Call f as ks pos) te) (hr:PA X es t):PA X (.Call f as ks pos::es) (br te t):=cu h hr rfl
theorem a9l {a b:Expr}{op:Operator}(h:PE X (.BinOp a op b pos) te) (hr:PA X es t):PA X (.BinOp a op b pos::es) (br te t):=cu h hr rfl
end
structure QE (X:Cx) (e:Expr) (t:TE):Prop where
 run:PE X e t
structure QT (X:Cx) (e:Expr) (t:TT):Prop where
 run:PT X e t
structure QW (X:Cx) (e:Expr) (t:TT):Prop where
 run:PW X e t
structure QA (X:Cx) (es:List Expr) (t:TA):Prop where
 run:PA X es t
structure QS (X:Cx) (st:Stmt) (t:TS):Prop where
 run:PS X st t
structure QB (X:Cx) (st:List Stmt) (t:TS):Prop where
 run:PSs X st t
structure QI (X:Cx) (tg iter:Expr) (wi:TI):Prop where
 run:PI X tg iter wi
structure QG (X:Cx) (target:Expr) (t:TG):Prop where
 run:PG X target t
structure QO (X:Cx) (e:Option Expr) (t:TO):Prop where
 run:PO X e t
structure QTs (X:Cx) (ifs:List Expr) (t:TT):Prop where
 run:PTs X ifs t
theorem QW.qt {X:Cx}{e:Expr}{t:TT}(h:QW X e t):QT X e t:=⟨PW.pt h.run⟩
section
variable {st:Stmt}{id:String}{lo hi:Option Expr}
set_option autoImplicit true
set_option relaxedAutoImplicit true
theorem bq  : QB X [] a71:=⟨zu ⟩
theorem ae {rest:List Stmt}(h1:QS X st t) (h2:QB X rest u):QB X (st::rest) (tSeq t u):=⟨kj h1.run h2.run⟩
theorem ai (h1:QS X st t):QB X [st] t:=⟨ji h1.run⟩
theorem bg {c:Expr}{a b:List Stmt}{tc:TT}(hc:QT X c tc) (ha:QB X a t) (hb:QB X b u):QS X (.If c a b pos) (tIfS tc t u):=⟨a6x hc.run ha.run hb.run⟩
theorem ar {i:Nat}{x:Str}{e:Expr}{te:TE}{pos':Pos}(hN:X.N.Nodup) (hi:X.N[i]? = some x) (hx:Loc X.env.scope x) (he:QE X e te) (hs:swapsWith e (some (.Name x pos')) pos.line X.env=pure false:=by rfl) (hf:X.fn x=true\/X.env.scope.names.lookup x=some .local:=by first|exact .inl rfl|exact .inr rfl|assumption) :     QS X (.Assign [.Name x pos'] e pos) (tAsg te (ba i)):=⟨a4r hN hi hx he.run hs hf⟩
theorem b5 (he:QE X e te):QS X (.Return (some e) pos) (tRet te):=⟨rn he.run⟩
theorem a06  : QS X (.Return none pos) a6q:=⟨a7p ⟩
theorem bp (he:QE X e te) (hs:swapsWith e none pos.line X.env=pure false:=by rfl):QS X (.Expr e pos) (j4 te):=⟨zh he.run hs⟩
theorem dv {iter:Expr}{body:List Stmt}{wi:TI}{g:TG}{tb:TS}{pos:Pos}(hp:PassesOwn (model X.prog X.w) X.A X.env X.xe) (hc:X.calm=true) (hi:QI X tg iter wi) (hg:QG X tg g) (hb:QB X body tb) (hs:∀x,foldedSetIterable iter X.env x=pure x:=by intro _;rfl):QS X (.For tg iter body [] pos) (tFor wi g tb):=⟨a1w hp hc hi.run hg.run hb.run hs⟩
theorem jt {tg e:Expr}{te:TE}{g:TG}(he:QE X e te) (hg:QG X tg g) (hs:swapsWithSole [tg] e pos.line X.env=pure false:=by rfl) (hw:swappedStores [tg] e X.env=pure none:=by rfl) (h1:(assignEach [tg] X.env).map (·.2)=[assign tg X.env]:=by rfl):QS X (.Assign [tg] e pos) (tAsg te g):=⟨a9d he.run hg.run hs hw h1⟩
theorem i3 {c:Expr}{body:List Stmt}{tc:TT}{tb:TS}(hp:PassesOwn (model X.prog X.w) X.A X.env X.xe) (hc:QT X c tc) (hb:QB X body tb):QS X (.While c body [] pos) (qq tc tb):=⟨a63 hp hc.run hb.run⟩
theorem ab {i j pos}:QE X (.Constant (.int i) j pos) (tC (.int i)):=⟨jl ⟩
theorem ge {b j pos}:QE X (.Constant (.bool b) j pos) (tC (.bl b)):=⟨a0q ⟩
theorem gw {j pos}:QE X (.Constant .none j pos) (tC .non):=⟨a90 ⟩
theorem b6 {x j pos}:QE X (.Constant (.str x) j pos) (tC (.str x)):=⟨wz ⟩
theorem qv (i:Nat) {x:Str}{pos:Pos}(hN:X.N[i]? = some x:=by rfl) (hv:Vis X.env.scope x:=by first|exact Or.inl rfl|exact Or.inr (Or.inl rfl)|exact Or.inr (Or.inr rfl)) (hd:(x == ("__debug__" : Str))=false:=by decide) (hcd:(x == ("__classdict__" : Str))=false:=by decide):QE X (.Name x pos) (tVar i):=⟨pv i hN hv hd hcd⟩
theorem qe_g {X:Cx}{x:Str}{v:V}{pos:Pos}(h:Glob X.mg x v) (hg:Gl X x:=by rfl) (hd:(x == ("__debug__" : Str))=false:=by decide):QE X (.Name x pos) (tC v):=⟨pe_g h hg hd⟩
theorem ax {op:Operator}{r:R2}(ho:OpR X (binaryOp op) r) (ha:QE X a ta) (hb:QE X b tb):QE X (.BinOp a op b pos) (tOp r ta tb):=⟨a79 ho ha.run hb.run⟩
theorem cz {op:CmpOp}{r:R2}(ho:OpR X (compareOp op) r) (ha:QE X a ta) (hb:QE X b tb) (hm:behindInMarks op b=false):QE X (.Compare a [op] [b] pos) (tOp r ta tb):=⟨mj ho ha.run hb.run hm⟩
theorem aw {op:CmpOp}{r:R2}(ho:OpR X (compareOp op) r) (ha:QE X a ta) (hb:QE X b tb) (hm:behindInMarks op b=false):QT X (.Compare a [op] [b] pos) (nq (tOp r ta tb)):=⟨js ho ha.run hb.run hm⟩
theorem ft {e:Expr}{t:TE}(h:QE X e t) (he:∀whole,isTrue e X.env whole=(do let v<-whole;standAt e.pos;holding [v] (truthy v)):=by intro _;rfl):QT X e (tB t):=⟨aa9 h.run he⟩
theorem mh (ha:QT X a tA):QT X (.UnaryOp .Not a pos) (tNot tA):=⟨a9n ha.run⟩
theorem g8 (ha:QT X a tA):QW X (.BoolOp .And [a] pos) tA:=⟨a8i ha.run⟩
theorem lj (ha:QT X a tA):QW X (.BoolOp .Or [a] pos) tA:=⟨a4s ha.run⟩
theorem gu {rest:List Expr}(ha:QT X a tA) (hb:QW X (.BoolOp .And (b::rest) pos) tB'):QW X (.BoolOp .And (a::b::rest) pos) (tAnd tA tB'):=⟨aaa ha.run hb.run⟩
theorem kg {rest:List Expr}(ha:QT X a tA) (hb:QW X (.BoolOp .Or (b::rest) pos) tB'):QW X (.BoolOp .Or (a::b::rest) pos) (tOr tA tB'):=⟨a0f ha.run hb.run⟩
theorem a91 {op} {t:TE}(h:QE X a t):QE X (.BoolOp op [a] pos) t:=⟨vt h.run⟩
theorem a9m {rest:List Expr}(ha:QE X a ta) (hb:QE X (.BoolOp .And (b::rest) pos) tb):QE X (.BoolOp .And (a::b::rest) pos) (a6y ta tb):=⟨a4u ha.run hb.run⟩
theorem a95 (ha:QE X a ta):QE X (.UnaryOp .Not a pos) (a74 ta):=⟨a93 ha.run⟩
theorem gj {c:Expr}(hc:QT X c tA) (ha:QE X a ta) (hb:QE X b tb):QE X (.IfExp c a b pos) (tIf tA ta tb):=⟨a5y hc.run ha.run hb.run⟩
theorem af {r:R2}(hr:IxR X r) (ha:QE X a ta) (hb:QE X b tb) (hs:zk b):QE X (.Subscript a b pos) (tOp r ta tb):=⟨uy hr ha.run hb.run hs⟩
theorem cj {r:V->Option Int->Option Int->Hp->VK->Prop}(hr:SlR X r) (he:QE X e te) (hl:QO X lo tl) (hu:QO X hi th):QE X (.Subscript e (.Slice lo hi none p2) pos) (tSl r te tl th):=⟨wq hr he.run hl.run hu.run⟩
theorem dj  : QO X none yz:=⟨zf ⟩
theorem cr (h:QE X e te):QO X (some e) (a6w te):=⟨a02 h.run⟩
theorem cf {x1} (h:QA X es t):QE X (.Tuple es x1 pos) (tTup t):=⟨a3l h.run⟩
theorem bw (h:QA X es t):QE X (.List es pos) (tLst t):=⟨yd h.run⟩
theorem aq (F:FnOk X.prog X.w X.K X.mg X.base CX k f fd ps sp) (hr:Room k X.A) (hg:Gl X x) (hm:X.mg x=some (.ref f)) (hk:Cq X.K (.ref f)=true) (hb:Binds X.K fd ps ds) (hd:Vals dvs ds) (hx:fw CX X E) (ha:QA X (e::es) t) (hdb:(x == ("__debug__" : Str))=false:=by decide) (he:starEach (e::es) X.env=(false,eval e X.env)::starEach es X.env:=by rfl) (hpl:(backTo pos (starEach es X.env)).any (·.1)=false:=by rfl) :     QE X (.Call (.Name x p) (e::es) [] pos) (a1m sp dvs E t):=⟨a8m F hr hg hm hk hb hd hx ha.run hdb he hpl⟩
theorem bf (hc:cy X (.builtin id) r) (hg:Gl X x) (hm:X.mg x=none) (hv:bootBuiltins x=some (.builtin id)) (ha:QA X (e::es) t) (hn:x ≠ "__name__" := by decide) (hdb:(x == ("__debug__" : Str))=false:=by decide) (he:starEach (e::es) X.env=(false,eval e X.env)::starEach es X.env:=by rfl) (hpl:(backTo pos (starEach es X.env)).any (·.1)=false:=by rfl):QE X (.Call (.Name x p) (e::es) [] pos) (tCB r t):=⟨kh hc hg hm hv ha.run hn hdb he hpl⟩
theorem be (hc:cy X (.type T) r) (hg:Gl X x) (hm:X.mg x=none) (hv:bootBuiltins x=some (.type T)) (ha:QA X (e::es) t) (hn:x ≠ "__name__" := by decide) (hdb:(x == ("__debug__" : Str))=false:=by decide) (he:starEach (e::es) X.env=(false,eval e X.env)::starEach es X.env:=by rfl) (hpl:(backTo pos (starEach es X.env)).any (·.1)=false:=by rfl):QE X (.Call (.Name x p) (e::es) [] pos) (tCB r t):=⟨ul hc hg hm hv ha.run hn hdb he hpl⟩
theorem vc (pa:PlainAttrs T) (slot:Slot T name id) (hty:typeOf (.builtin id)=pure (.type "method_descriptor")) (hm:MtR X id r) (ho:QE X o to) (hbase:attributeBase o name X.env (eval o X.env)=eval o X.env:=by rfl) (hline:(apos.endLine == cpos.line)=true:=by rfl):QE X (.Call (.Attribute o name apos) [] [] cpos) (tBM0 X.K T r to):=⟨aab pa slot hty hm ho.run hbase hline⟩
theorem kd {X:Cx}{elt iter:Expr}{x:Str}{px pos:Pos}{ifs:List Expr}{sc:Scope}{wi:TI}{tc:TT}{te:TE}(hi:QI X (.Name x px) iter wi) (hif:∀s H C ex,QTs (blk X [x] s H sc [] C ex) ifs tc) (he:∀s H C ex,QE (blk X [x] s H sc [] C ex) elt te) (hc:X.calm=true:=by rfl) (hkind:sc.kind=.function:=by rfl) (hx:sc.names.lookup x=some .local:=by decide +kernel) (hfree:∀y∈sc.names,y.2≠.free:=by decide +kernel) (hcell:∀y∈sc.names,y.2≠.cell:=by decide +kernel) (hnames:∀y∈sc.names,y.2=.local->sc.names.lookup y.1=some .local:=by decide +kernel) (hs:∀x,foldedSetIterable iter X.env x=pure x:=by intro _;rfl) :     QE X (.ListComp elt [⟨.Name x px,iter,ifs,0⟩] sc pos) (qu [] wi tc te):=⟨pi hi.run (fun z0 z1 z2 z3=>(hif z0 z1 z2 z3).run) (fun z0 z1 z2 z3=>(he z0 z1 z2 z3).run) hc hkind hx hfree hcell hnames hs⟩
theorem a8t (ho:QE X o to) (ha:QA X [e] t) (hbase:attributeBase o "get" X.env (eval o X.env)=eval o X.env:=by rfl) (hfew:((backTo cpos (starEach [e] X.env)).all (fun x => !x.1) && (backToKw cpos (keywordEach [] X.env)).all (fun x=>x.1.isSome)       && decide ([e].length+([]:List Keyword).length+(if ([]:List Keyword).isEmpty then 0 else 1)<30))=true:=by rfl) (hline:(apos.endLine == cpos.line)=true:=by rfl) (hs:starEach [e] X.env=(false,eval e X.env)::starEach [] X.env:=by rfl) (hplain:(backTo cpos (starEach [] X.env)).any (·.1)=false:=by rfl) :     QE X (.Call (.Attribute o "get" apos) [e] [] cpos) (a6r X to t):=⟨a8r ho.run ha.run hbase hfew hline hs hplain⟩
theorem gc {l:Expr}{tl:TE}(hl:QE X l tl):QI X tg l (a1h X.K tl):=⟨zg hl.run⟩
theorem aa6 {l:Expr}{tl:TE}(hl:QE X l tl):QI X tg l (iTup X.K tl):=⟨a2x hl.run⟩
theorem jd {a:Expr}{ta:TA}{p pos:Pos}(hg:Gl X "range") (hm:X.mg "range" = none) (ha:QA X [a] ta) (hs:starEach [a] X.env=[(false,eval a X.env)]:=by rfl):QI X tg (.Call (.Name "range" p) [a] [] pos) (a76 ta):=⟨a4g hg hm ha.run hs⟩
theorem a2e {a b:Expr}{ta:TA}{p pos:Pos}(hg:Gl X "range") (hm:X.mg "range" = none) (ha:QA X [a,b] ta) (hs:starEach [a,b] X.env=[(false,eval a X.env),(false,eval b X.env)]:=by rfl) (hs2:starEach [b] X.env=[(false,eval b X.env)]:=by rfl) :     QI X tg (.Call (.Name "range" p) [a,b] [] pos) (a6m ta):=⟨a2k hg hm ha.run hs hs2⟩
theorem bo {i:Nat}{x:Str}(hN:X.N.Nodup) (hi:X.N[i]? = some x) (hx:Loc X.env.scope x) (hf:X.fn x=true\/X.env.scope.names.lookup x=some .local:=by first|exact .inl rfl|exact .inr rfl|assumption):QG X (.Name x pos) (ba i):=⟨mo hN hi hx hf⟩
theorem a0  : QA X [] tNil:=⟨ij ⟩
theorem bv (ha:QE X e te) (hr:QA X es t) (hs:starEach (e::es) X.env=(false,eval e X.env)::starEach es X.env:=by rfl):QA X (e::es) (br te t):=⟨cu ha.run hr.run hs⟩
theorem c6 {j} (hr:QA X es t):QA X (.Constant (.str x) j pos::es) (br (tC (.str x)) t):=⟨a9w hr.run⟩
theorem b9 {i:Int}{j} (hr:QA X es t):QA X (.Constant (.int i) j pos::es) (br (tC (.int i)) t):=⟨a9a hr.run⟩
theorem aat {b:Bool}{j} (hr:QA X es t):QA X (.Constant (.bool b) j pos::es) (br (tC (.bl b)) t):=⟨ab1 hr.run⟩
theorem aj (h:QE X (.Name x pos) te) (hr:QA X es t):QA X (.Name x pos::es) (br te t):=⟨aan h.run hr.run⟩
theorem jv {x1} (h:QA X es1 t1) (hr:QA X es t):QA X (.Tuple es1 x1 pos::es) (br (tTup t1) t):=⟨aai h.run hr.run⟩
theorem fh (h:QA X es1 t1) (hr:QA X es t):QA X (.List es1 pos::es) (br (tLst t1) t):=⟨aau h.run hr.run⟩
theorem az {a b:Expr}(h:QE X (.Subscript a b pos) te) (hr:QA X es t):QA X (.Subscript a b pos::es) (br te t):=⟨a9t h.run hr.run⟩
theorem bi {f:Expr}{as:List Expr}{ks:List Keyword}(h:QE X (.Call f as ks pos) te) (hr:QA X es t):QA X (.Call f as ks pos::es) (br te t):=⟨a7q h.run hr.run⟩
theorem dq {a b:Expr}{op:Operator}(h:QE X (.BinOp a op b pos) te) (hr:QA X es t):QA X (.BinOp a op b pos::es) (br te t):=⟨a9l h.run hr.run⟩
theorem om {X:Cx}:QTs X [] tYes:=⟨ze ⟩
theorem a05 {X:Cx}{c:Expr}{t:TT}(h:QT X c t):QTs X [c] t:=⟨yr h.run⟩
end
theorem wn {X:Cx}{o i:Expr}{to ti:TE}{t:TSet}{pos:Pos}(ho:QE X o to) (hi:QE X i ti) (hs:PSet X t)
   (ha:∀v,assign (.Subscript o i pos) X.env v=(do
     let ov<-holding [v] (eval o X.env)
     let iv<-holding [v,ov] (eval i X.env)
     standAt pos
     holding [v,ov,iv] (setItem ov iv v)
     release [v,ov,iv] []):=by intro _;rfl):QG X (.Subscript o i pos) (gSub to ti t):=⟨a9j ho.run hi.run hs ha⟩
theorem Fun.okQ {P:Program}{w:World}{K:Ab}{mg:Str->Option Value}{base:Heap}{x qual:Str}{st:Stmt}{f:Addr}{fd:FuncData}{N ps:List Str}{k:Nat}{sp:Sp}(F:Fun K x qual st f fd) (S:FnScope N ps (au st)) (len:∀vs H Q E,sp vs H Q E->vs.length=ps.length)
   (hbody:∀(cdv:Value) (A:Around) (outer:List Env) (s:Shared) (H:Hp) (vs:List V) (Q:VK) (E:XK),Room k (A.deeper (envOfC qual (au st) s.heap.objs.size f cdv))->sp vs H Q E->
     ∃t,QB (cxOf CX0 P w K mg base N qual (au st) f cdv A outer s H E).nox (i4 st) t/\t { nx:=fun _ H'=>Q .non H',rt:=Q } (start N vs) H):FnOk P w K mg base CX0 (k+1) f fd ps sp :=
 F.ok S len fun cdv A outer s H vs Q E hr h=>by
   obtain⟨t,h1,h2⟩:=hbody cdv A outer s H vs Q E hr h
   exact⟨t,h1.run,h2⟩
section
variable {X:Cx}{st:Stmt}{t:TS}{e:Expr}{te:TE}
end
section
variable {id:String}
set_option autoImplicit true
set_option relaxedAutoImplicit true
theorem fq {K:Ab}(hK:X.K=K) (pa:PlainAttrs T) (slot:Slot T name id) (hty:typeOf (.builtin id)=pure (.type "method_descriptor")) (hm:MtR X id r) (ho:QE X o to) (ha:QA X (e::es) t) (hbase:attributeBase o name X.env (eval o X.env)=eval o X.env:=by rfl) (hfew:((backTo cpos (starEach (e::es) X.env)).all (fun x => !x.1) && (backToKw cpos (keywordEach [] X.env)).all (fun x=>x.1.isSome)       && decide ((e::es).length+([]:List Keyword).length+(if ([]:List Keyword).isEmpty then 0 else 1)<30))=true:=by rfl) (hline:(apos.endLine == cpos.line)=true:=by rfl) (hs:starEach (e::es) X.env=(false,eval e X.env)::starEach es X.env:=by rfl) (hplain:(backTo cpos (starEach es X.env)).any (·.1)=false:=by rfl):QE X (.Call (.Attribute o name apos) (e::es) [] cpos) (tBM K T r to t):=by
 subst hK
 exact⟨a77 pa slot hty hm ho.run ha.run hbase hfew hline hs hplain⟩
end
section
variable {X:Cx}{pins:List (Addr×Obj)}{σ:St}{H:Hp}{s:Shared}{h':Heap}
theorem Inv.turnedL {t':Nat}{ch:List Addr}(I:Inv X pins σ H s) (k:∀b o,b∉ch->s.heap.get? b=some o->h'.get? b=some o) (hc:∀b∈ch,FpOk X pins H b):Inv X pins σ H { s with heap:=h',toks:=t' }:=by
 have nit:∀b u,H b=some u->b∉ch:=fun b u e z=>by rw[(hc b z).1] at e;cases e
 refine I.step (g':=s.gens) (d':=s.drawn) (ch:=ch) (fun b hb=>⟨(hc b hb).2.2.2.1,(hc b hb).2.1,(hc b hb).2.2.2.2.1,(hc b hb).2.2.2.2.2⟩) (fun b o _ _ hn e _=>k b o hn e) (fun b o _ _ hn e _=>⟨o.slots,k b o hn e⟩) (fun _ _ _ _ n=>n)
   (fun b o hn e=>⟨o,k b o hn e⟩) (fun _ _ e=>e) (fun _ _ _ e=>e) (fun b ps e=>⟨#[],by rw[e];simp⟩) (fun m hm=>?_) (fun b u e=>?_) I.bare
 . obtain⟨o,es,ep,ho,r⟩:=hm
   exact⟨o,es,ep,k _ o (fun z=>(hc _ z).2.1 rfl) ho,r⟩
 . refine (I.hok b u e).stay (fun c v hcv q=>k c v ?_ q) (fun _ q=>q) fun _ _ q=>q
   rcases hcv with z|z
   . rw[z];exact nit b u e
   . exact nit c _ z
end
noncomputable def df (n:Addr):List Addr:=[n+4,n+2,n+3,n,n+1]
theorem pe {n l1 l2:Nat}(h1:l1∉df n) (h2:l2∉df n):ZipApart (n+4) (n+2) (n+3) n (n+1) l1 l2:=by
 unfold df at h1 h2
 simp only[Al,AN,or_false,not_or] at h1 h2
 have nn:∀a b:Nat,a≠b->n+a≠n+b:=fun a b h=>by omega
 have n0:∀a:Nat,a≠0->n≠n+a:=fun a h=>by omega
 exact⟨nn 2 4 (by decide),nn 3 4 (by decide),n0 4 (by decide),nn 1 4 (by decide),nn 2 3 (by decide),(n0 2 (by decide)).symm,nn 2 1 (by decide),(n0 3 (by decide)).symm,nn 3 1 (by decide),n0 1 (by decide),h1.1,h1.2.2.1,h1.2.2.2.1,h1.2.2.2.2,h2.1,h2.2.2.1,h2.2.2.2.1,h2.2.2.2.2⟩
section
variable {X:Cx}
end
section
variable {X:Cx}
end
section
variable {X:Cx}
theorem my {pos:Pos}:QE X (.Dict [] [] pos) a3w:=⟨a5h⟩
theorem fj {o i:Expr}{pos:Pos}{td ty:TE}(hu:X.A.units+1<cLine) (ho:QE X o td) (hi:QE X i ty) (hs:NoSl i):QE X (.Subscript o i pos) (a6v td ty):=⟨a7s hu ho.run hi.run hs⟩
theorem a9k {o i:Expr}{pos:Pos}{td ty:TE}(hu:X.A.units+1<cLine) (hi:QE X i ty) (ho:QE X o td) (hm:behindInMarks .In o=false:=by with_unfolding_all rfl):QT X (.Compare i [.In] [o] pos) (tB (tDIn ty td)):=⟨a2j (a9b hu hi.run ho.run) hm⟩
theorem a1t {o i:Expr}{pos:Pos}{td ty:TE}(hu:X.A.units+1<cLine) (hi:QE X i ty) (ho:QE X o td) (hm:behindInMarks .NotIn o=false:=by with_unfolding_all rfl):QT X (.Compare i [.NotIn] [o] pos) (tB (zy ty td)):=⟨a2j (a2r hu hi.run ho.run) hm⟩
theorem di {o i value:Expr}{pos pos':Pos}{td ty tv:TE}(hu:X.A.units+1<cLine) (ho:QE X o td) (hi:QE X i ty) (hv:QE X value tv) (hs:swapsWith value (some (.Subscript o i pos')) pos.line X.env=pure false:=by rfl) :
   QS X (.Assign [.Subscript o i pos'] value pos) (ju td ty tv):=⟨a7r hu ho.run hi.run hv.run hs⟩
theorem a5k {o e f:Expr}{apos cpos:Pos}{td ty tx:TE}(hu:X.A.units+1<cLine) (ho:QE X o td) (he:QE X e ty) (hf:QE X f tx) (m:M2 X o "get" apos e f cpos:=by exact⟨rfl,rfl,rfl,rfl⟩) :
   QE X (.Call (.Attribute o "get" apos) [e,f] [] cpos) (a2p td ty tx):=⟨a4y hu ho.run he.run hf.run m⟩
theorem ig:cy X (.type "dict") (fun xs H Q=>∃a kvs,xs=[V.ref a]/\H a=some (.dK kvs)/\∀p,H p=none->Q (.ref p) (upd H p (.dK kvs))):=by
 intro pins s σ H xs us Q I r h
 obtain⟨a,kvs,rfl,ha,q⟩:=h
 obtain⟨u,rfl,ru⟩:=jy r
 cases ru
 exact a60 I (.inl ha) fun p s' hp I'=>⟨.ref p,_,I',rfl,q p hp⟩
theorem a00 {P:Program}{w:World}{k:Key}{v:Value}(h:(ci P w).is k v=true):RelV (kV k) v:=by
 rcases ck h with⟨i,t,rfl,rfl⟩|⟨x,t,rfl,rfl⟩
 . exact⟨t,rfl⟩
 . exact⟨t,rfl⟩
theorem vi:∀{ks:List V}{vs:List Value},vs.length=ks.length->(∀(j:Nat) (v:Value),vs[j]? = some v->∃y,ks[j]? = some y/\RelV y v)->Vals ks vs
 | [],[],_,_=>.nil
 | k::ks,v::vs,hl,h=>by
   obtain⟨y,e,r⟩:=h 0 v rfl
   cases e
   exact .cons r (vi (by simpa using hl) fun j u hu=>h (j+1) u (by simpa using hu))
theorem sk (hc:X.calm=true):cy X (.type "list") (fun xs H Q=>∃a kvs,xs=[V.ref a]/\H a=some (.dK kvs)/\∀p,H p=none->Q (.ref p) (upd H p (.lst (kvs.map fun kv=>kV kv.1)))):=by
 intro pins s σ H xs us Q I r h
 obtain⟨a,kvs,rfl,ha,q⟩:=h
 obtain⟨u,rfl,ru⟩:=jy r
 cases ru
 obtain⟨z,hd,vs,rel,dd⟩:=gt I.hok (.inl ha)
 have hl:=rel.length
 obtain⟨ep,da⟩:=dd.dictAt
 refine PySem.W.kdl_call (PySem.W.kdl_dict hd) (I.ok.hd hc) da (by rw[<- hl];exact z) fun h' tk acc c hk hD hacc=>?_
 refine⟨.ref s.heap.objs.size,_,I.laid (t':=tk) hk (Ah _) (show ObjOk X.prog X.w _ h' _ (.lst (kvs.map fun kv=>kV kv.1)) from⟨by rw[Ac];exact z,acc.toList,c,?_,by simpa using hD⟩),rfl,q _ (I.hok.fresh (Ah _))⟩
 refine vi (by rw[AU,Ac,hl];exact hacc.1) fun j v hv=>?_
 obtain⟨k,x,e,ke⟩:=hacc.2 j v (by rw[<- BJ];exact hv)
 have ek:=rel.keys
 have e2:(vs.map (·.1))[j]? = some k:=by rw[Ak,e];rfl
 rw[<- ek,Ak] at e2
 refine⟨kV k,?_,a00 ke⟩
 rw[Ak]
 cases hj:kvs[j]? with
 | none=>rw[hj] at e2;cases e2
 | some p=>rw[hj] at e2;rw[<- Av e2];rfl
end
theorem oz:∀{ks:List (Key×Value)}{k:Key}{v:Value},(ks.map (·.1)).Nodup->(k,v)∈ks->valueAt ks k=some v
 | [],_,_,_,hm=>by simp at hm
 | q::r,k,v,hnd,hm=>by
   rw[AA,Bb] at hnd
   unfold valueAt
   by_cases hq:q.1=k
   . rcases Al.mp hm with rfl|hm'
     . simp
     . exact absurd (AF.mpr ⟨(k,v),hm',hq.symm⟩) hnd.1
   . rcases Al.mp hm with rfl|hm'
     . exact absurd rfl hq
     . have:=oz hnd.2 hm'
       unfold valueAt at this
       simp only[BC]
       simp[hq,this]
noncomputable def a6s:V->Bool
 | .byt _=>false
 | .flt _=>false
 | _=>true
theorem a52 {A:Around}{s:Shared}{v:V}{u u':Value}(hv:a6s v=true) (r:RelV v u) (r':RelV v u'):Hc A s u u' true:=by
 cases v with
 | non=>cases r;cases r';exact DA _
 | bl b=>cases r;cases r';exact DA _
 | int i =>
   obtain⟨t,rfl⟩:=r
   obtain⟨t',rfl⟩:=r'
   have:=HC (A:=A) (s:=s) i t i t'
   simpa using this
 | str x =>
   obtain⟨t,rfl⟩:=r
   obtain⟨t',rfl⟩:=r'
   have:=HD (A:=A) (s:=s) x t x t'
   simpa using this
 | byt b=>cases hv
 | flt b=>cases hv
 | ref a=>cases r;cases r';exact DA _
 | ty n=>cases r;cases r';exact DA _
theorem wj {A:Around}{s:Shared}{kb:List (Key×Value)}:∀ls:List (Key×Value),(∀p∈ls,∃y,valueAt kb p.1=some y/\Hc A s p.2 y true)->PySem.W.KeqHits A s kb ls true
 | [],_=>.nil
 | (k,v)::ls,h=>by
   obtain⟨y,e1,e2⟩:=h (k,v) (Aj ..)
   have:=PySem.W.KeqHits.hit (A:=A) (s:=s) (kb:=kb) e1 e2 (wj ls fun p hp=>h p (Ao _ hp))
   simpa using this
section
variable {X:Cx}
theorem a0u {P:Program}{w:World}{h:Heap}{a:Addr}{vs:List (Key×Value)}(d:h.DictOf (ci P w) a vs):(vs.map (·.1)).Nodup:=by
 obtain⟨_,_,_,_,_,_,_,_,hn⟩:=d
 exact hn
end
theorem a3b {L:List (Str×NameKind)}{cl:List (Str×Addr)}{ks:List Str}(hkm:cl.map (·.1)=ks) (hkB:(L.all fun y=>(match y.2 with|.cell=>false|.free=>false|_=>true) || decide (y.1∈ks))=true) (z:Str) (h:L.lookup z=some .cell\/L.lookup z=some .free):∃c,cl.lookup z=some c:=by
 have hm:z∈cl.map (·.1):=by
   rw[hkm]
   rcases h with h|h
   . have:=Dc.mp hkB _ (BG h)
     simpa using this
   . have:=Dc.mp hkB _ (BG h)
     simpa using this
 clear hkm hkB
 induction cl with
 | nil=>simp at hm
 | cons p r ih =>
   rw[Ej]
   cases hb:z == p.1 with
   | true=>exact⟨_,rfl⟩
   | false =>
     rw[AA,Al] at hm
     rcases hm with h1|h1
     . rw[h1] at hb;simp at hb
     . exact ih h1
section
variable {X:Cx}
theorem xr:cy X (.builtin "isinstance") (fun xs H Q=>∃i,xs=[.int i,.ty "int"]/\Q (.bl true) H):=by
 intro pins s σ H xs us Q I r h
 obtain⟨z,rfl,q⟩:=h
 cases r with
 | cons r1 r =>
   cases r with
   | cons r2 r =>
     cases r
     obtain⟨t,rfl⟩:=r1
     cases r2
     exact IsiPair.int_int ⟨.bl true,H,I,rfl,q⟩
theorem yo:cy X (.builtin "isinstance") (fun xs H Q=>∃i,xs=[.int i,.ty "bool"]/\Q (.bl false) H):=by
 intro pins s σ H xs us Q I r h
 obtain⟨z,rfl,q⟩:=h
 cases r with
 | cons r1 r =>
   cases r with
   | cons r2 r =>
     cases r
     obtain⟨t,rfl⟩:=r1
     cases r2
     exact IsiPair.int_bool ⟨.bl false,H,I.tok _,rfl,q⟩
end
theorem a48 {cl cells:List (Str×Addr)}(h:∀p∈cl,cells.lookup p.1=some p.2) (y:Str) (c:Addr) (e:cl.lookup y=some c):cells.lookup y=some c:=h (y,c) (BG e)
inductive ClIn (cells:List (Str×Addr)):List (Str×Addr)->Prop
 | nil:ClIn cells []
 | cons {x:Str} {a:Addr} {r:List (Str×Addr)}:cells.lookup x=some a->ClIn cells r->ClIn cells ((x,a)::r)
theorem ClIn.all {cells cl:List (Str×Addr)}(h:ClIn cells cl):∀p∈cl,cells.lookup p.1=some p.2:=by
 induction h with
 | nil=>intro p hp;cases hp
 | cons h _ ih =>
   intro p hp
   rcases Al.mp hp with rfl|z
   . exact h
   . exact ih p z
inductive IxIn (X:Cx) (sc:Scope):List Nat->Prop
 | nil:IxIn X sc []
 | cons {j:Nat} {y:Str} {r:List Nat}:X.N[j]? = some y->X.env.kindOf y=some .cell->(relabel sc X.env).names.lookup y=some .cell->IxIn X sc r->IxIn X sc (j::r)
theorem IxIn.all {X:Cx}{sc:Scope}{ix:List Nat}(h:IxIn X sc ix):∀j∈ix,∃y,X.N[j]? = some y/\X.env.kindOf y=some .cell/\(relabel sc X.env).names.lookup y=some .cell:=by
 induction h with
 | nil=>intro p hp;cases hp
 | cons h1 h2 h3 _ ih =>
   intro p hp
   rcases Al.mp hp with rfl|z
   . exact⟨_,h1,h2,h3⟩
   . exact ih p z
theorem a6e {X:Cx}{elt iter:Expr}{x:Str}{px pos:Pos}{ifs:List Expr}{sc:Scope}{cl:List (Str×Addr)}{wi:TI}{tc:TT}{te:TE}(N:List Str) (ix:List Nat) (hi:QI X (.Name x px) iter wi)
   (hif:∀s H C ex,QTs (blk X N s H sc cl C ex) ifs tc) (he:∀s H C ex,QE (blk X N s H sc cl C ex) elt te)
   (hcl:closureFor sc X.env=pure cl:=by rfl) (hcs:ClIn X.env.cells cl:=by repeat' first|with_unfolding_all rfl|constructor) (hN:N=x::ix.map (fun j=>(X.N[j]?).getD ""):=by rfl) (hnd:N.Nodup:=by decide +kernel)
   (hkm:cl.map (·.1)=N.tail:=by rfl) (hkB:((relabel sc X.env).names.all fun y=>(match y.2 with|.cell=>false|.free=>false|_=>true) || decide (y.1∈N.tail))=true:=by with_unfolding_all rfl)
   (hix:IxIn X sc ix:=by repeat' first|with_unfolding_all rfl|constructor)
   (hx:sc.names.lookup x=some .local:=by decide +kernel) (hcell:∀z∈sc.names,z.2≠.cell:=by decide +kernel)
   (hnames:∀z∈sc.names,z.2=.local->sc.names.lookup z.1=some .local:=by decide +kernel)
   (hc:X.calm=true:=by rfl) (hkind:sc.kind=.function:=by rfl) (hs:∀x,foldedSetIterable iter X.env x=pure x:=by intro _;rfl) :
   QE X (.ListComp elt [⟨.Name x px,iter,ifs,0⟩] sc pos) (qu ix wi tc te) :=
 ⟨yx N hc hi.run (fun s H C ex=>(hif s H C ex).run) (fun s H C ex=>(he s H C ex).run) hkind hN hnd hx hcl hcell hnames (a48 hcs.all) (a3b hkm hkB) hix.all hs⟩
section
variable {X:Cx}{CX:CXT}{k:Nat}{f C:Addr}{fd:FuncData}{ps:List Str}{ds:List Value}{dvs:List V}{sp:Sp}{E:XK}{x m fl:Str}{p pos pos' apos:Pos}{e o value:Expr}{es:List Expr}{ta tv:TE}{t:TA}
theorem a9v (he:QE X e ta) (hb:attributeBase e fl X.env (eval e X.env)=eval e X.env:=by rfl):QE X (.Attribute e fl pos) (tFld X.K ta fl):=⟨aa7 he.run hb⟩
theorem aae (ha:QE X o ta) (hv:QE X value tv) (hs:swapsWith value (some (.Attribute o fl pos')) pos.line X.env=pure false:=by rfl):QS X (.Assign [.Attribute o fl pos'] value pos) (sFld X.K ta tv fl):=⟨a97 ha.run hv.run hs⟩
theorem cv {pl:Sem Bool}(he:QE X o ta) (c:Cls X.K C) (hm:Meth X.K C m f) (F:FnOk X.prog X.w X.K X.mg X.base CX k f fd ps sp) (hr:Room k X.A) (hb:Binds X.K fd ps ds) (hd:Vals dvs ds) (hx:fw CX X E) (ha:QA X (e::es) t)
   (hst:starEach (e::es) X.env=(false,eval e X.env)::starEach es X.env:=by rfl) (hpl:(backTo pos (starEach es X.env)).any (·.1)=false:=by rfl)
   (ht:eval (.Call (.Attribute o m apos) (e::es) [] pos) X.env=(do
     let ov<-eval o X.env
     standAt apos.atName
     let (f,first)<-holding [ov] (getMethod ov m pl)
     callWith pos f first (backTo pos (starEach (e::es) X.env)) (backToKw pos (keywordEach [] X.env))):=by rfl) :
   QE X (.Call (.Attribute o m apos) (e::es) [] pos) (rp C m sp dvs E ta t):=⟨a8d he.run c hm F hr hb hd hx ha.run hst hpl ht⟩
theorem dt {pl:Sem Bool}(he:QE X o ta) (c:Cls X.K C) (hm:Meth X.K C m f) (F:FnOk X.prog X.w X.K X.mg X.base CX k f fd ps sp) (hr:Room k X.A) (hb:Binds X.K fd ps ds) (hd:Vals dvs ds) (hx:fw CX X E)
   (ht:eval (.Call (.Attribute o m apos) [] [] pos) X.env=(do
     let ov<-eval o X.env
     standAt apos.atName
     let (f,first)<-holding [ov] (getMethod ov m pl)
     callWith pos f first (backTo pos (starEach [] X.env)) (backToKw pos (keywordEach [] X.env))):=by rfl) :
   QE X (.Call (.Attribute o m apos) [] [] pos) (rp C m sp dvs E ta tNil):=⟨a64 he.run c hm F hr hb hd hx ht⟩
theorem yq (M:Mk X.K C f) (F:FnOk X.prog X.w X.K X.mg X.base CX k f fd ps sp) (hr:Room (k+1) X.A) (hg:Gl X x) (hm:X.mg x=some (.ref C)) (hb:Binds X.K fd ps ds) (hd:Vals dvs ds) (hx:fw CX X E)
   (ha:QA X (e::es) t) (hdb:(x == ("__debug__" : Str))=false:=by decide) (he:starEach (e::es) X.env=(false,eval e X.env)::starEach es X.env:=by rfl) (hpl:(backTo pos (starEach es X.env)).any (·.1)=false:=by rfl) :
   QE X (.Call (.Name x p) (e::es) [] pos) (a7c C sp dvs E t):=⟨a8h M F hr hg hm hb hd hx ha.run hdb he hpl⟩
end
section
variable {X:Cx}{pins:List (Addr×Obj)}{σ:St}{H:Hp}{s:Shared}{a:Addr}{y d:V}{u r:Value}{A:Around}{E:Value->Shared->Prop}
end
section
variable {X:Cx}{o e f:Expr}{apos cpos:Pos}{td ty tx:TE}
end
section
variable {prog:Program}{w:World}{A:Around}{E:Value->Shared->Prop}{s:Shared}{J d:Addr}{n ep:Nat}{es:Array DictEntry}{od:Obj}
theorem vm {Q:Option Value->Shared->Prop}(hj:s.heap.IsKeyIter J d n es.size ep) (h1:s.heap.get? d=some od) (h2:od.data=.dict es ep) (hh:A.handled=none)
   (q1:∀(hn:n<es.size) h',h'.IsKeyIter J d (n+1) es.size ep->Ct J s.heap h'->Q (some es[n].key) { s with heap:=h' }) (q2:es.size<=n->∀h',Gh J s.heap h'->Q none { s with heap:=h' }) :
   wpAny (model prog w) A (pyNext (.ref J)) Q E s:=by
 obtain⟨oj,g1,g2,g3⟩:=id hj
 have ty:=hj.typeIs
 have no:Builtin.Dict_items.ownsTuple "dict_keyiterator" = false:=by decide
 have nn:¬ ((Value.ref d == Value.none)=true):=Af
 have pos:¬ ((n:Int)<0):=by omega
 unfold pyNext
 refine Aa (Eg (Bn (name:=Bq "__next__") ty DY (Bm DY ty PySem.F.entry_dict_keyiterator_next ?_ (PySem.F.args_dict_keyiterator_next_1 _))))
 refine Aa (Ae (Aa (Aa ?_)))
 first|refine Aa (Dk ty (Ae (Aa (EJ g1 g3 ?_))))|refine Aa (DN ty (Ae (Aa (EJ g1 g3 ?_))))
 simp only[no,Bt,if_false]
 show wpAny _ _ (if (Value.ref d == Value.none)=true then _ else _) _ _ s;rw[if_neg nn]
 refine Aa (Ae (Aa (HV h1 h2 ?_)));rw[if_neg (by simp)]
 refine Aa (Ae (Aa (wpAny_dictEpoch h1 h2 ?_)));rw[if_neg (by simp)];refine Ae ?_
 by_cases hn:n<es.size
 . simp only[pos,if_false,By,Fu hn]
   refine Aa ?_
   first|refine Aa (Dk ty (Ae (Aa (El ty ?_))))|refine Aa (DN ty (Ae (Aa (El ty ?_))))
   show wpAny _ _ (setField (.ref J) 1 (rawInt ((n:Int)+1)) >>= _) _ _ s;refine Aa (EL g1 g3 (by simp) ?_)
   have hj':(s.heap.update J (Ff (·.setIfInBounds 1 (rawInt ((n:Int)+1))))).IsKeyIter J d (n+1) es.size ep:=⟨_,Bl _ g1 (Em (Di g3 _)),(Fo ..).trans g2,(by rw[Di g3];simp[rawInt])⟩
   refine Aa (AZ (Aa (El (s:={ s with heap:=s.heap.update J (Ff (·.setIfInBounds 1 (rawInt ((n:Int)+1)))) }) hj'.typeIs ?_)))
   exact Ae (Ae ⟨_,rfl,Ae (q1 hn _ hj' (Cz ..))⟩)
 . simp only[pos,if_false,By,Array.getElem?_eq_none (Fw hn)]
   refine Aa ?_
   first|refine Aa (Dk ty (Ae ?_))|refine Aa (DN ty (Ae ?_))
   show wpAny _ _ (setField (.ref J) 0 .none >>= _) _ _ s;refine Aa (EL g1 g3 (by simp) (Aa ?_))
   simp only[newExc,newTuple];refine Aa (AL ?_ (by size_fits))
   refine Aa (m:=firstArgMember _ _) (ES (a:=Value.none) (by first|rfl|(simp only[firstArgMember];rfl)) (AL ?_ (by size_fits)))
   simp only[raiseNew];refine Aa (wpAny_handled ?_);rw[show A.in1.handled=none from hh]
   refine Aa (Ae (wpAny_throw ?_));have sub:=Gw
   refine Aa (Eh (T := "StopIteration") (b:=true) ⟨_,An _ rfl,rfl⟩ sub ?_)
   exact Ae (q2 (Fw hn) _ (((Cz ..).extBut.push _).push _))
theorem a5o {Q:Value->Shared->Prop}(hd:(d == sysModules)=false) (h1:s.heap.get? d=some od) (hc:od.ExactDict) (h2:od.data=.dict es ep)
   (q:Q (.ref s.heap.objs.size) { s with heap:=s.heap.push { cls:=.type "dict_keyiterator",data:=.fields #[.ref d,.int 0 0,.int es.size 0,.int ep 0] } }):wpAny (model prog w) A (pyIter (.ref d)) Q E s:=by
 have ty:s.TypeIs (.ref d) "dict" := ⟨od,h1,hc.1⟩
 refine Fk ty Gi (Bm Gi ty PySem.F.entry_dict_iter ?_ (PySem.F.args_dict_iter_1 _))
 unfold Builtin.«dict.__iter__»;refine Aa ?_;unfold Builtin.Dict.dictSlotNone
 refine Aa (G0 ty (Ae ?_))
 show wpAny _ _ (GG d >>= _) _ _ s;unfold GG
 rw[if_neg (show ¬ (d == sysModules)=true by rw[hd];exact Af)]
 refine Aa (Ae (Aa (HV h1 h2 (Aa (wpAny_dictEpoch h1 h2 ?_)))))
 exact Aa (AL (Ae ⟨_,rfl,"dict_keyiterator",_,⟨_,An _ rfl,rfl⟩,PySem.F.slot_dict_keyiterator_next.lookup,q⟩))
end
section
variable {X:Cx}
end
noncomputable def NF (X:Cx) (a:Addr):Prop:=∀o u,X.H₀ a≠some (.frz o u)
section
variable {X:Cx}{pins:List (Addr×Obj)}{σ:St}{H:Hp}{s:Shared}{a:Addr}{u:HO}{o:Obj}
theorem Inv.nf (I:Inv X pins σ H s) (e:H a=some u) (hu:∀o v,u≠.frz o v):NF X a:=fun o v z=>by
 have:=I.base.frzs a o v z
 rw[e] at this
 exact hu o v (Av this)
theorem Inv.thaw (I:Inv X pins σ H s) (e:H a=some (.frz o u)) (nf:NF X a):Inv X pins σ (upd H a u) s:=by
 have k:∀b v,H b=some v->(∀o' u',v≠.frz o' u')->(upd H a u) b=some v:=fun b v q n=>by
   rw[ah fun z=>by rw[z,e] at q;exact n o u (Av q).symm];exact q
 have k0:∀b,H b=none->(upd H a u) b=none:=fun b q=>by
   rw[ah fun z=>by rw[z,e] at q;cases q];exact q
 have hok:HOk X.prog X.w (upd H a u) s.heap:=fun b v q=>by
   have st:∀{c:Addr} {w':HO},ObjOk X.prog X.w H s.heap c w'->ObjOk X.prog X.w (upd H a u) s.heap c w':=fun x=>x.stay (fun _ _ _ z=>z) (fun c z=>k c _ z fun _ _ y=>by cases y) fun c xs z=>k c _ z fun _ _ y=>by cases y
   by_cases hb:b=a
   . subst hb
     rw[aa] at q
     cases q
     exact st (I.hok b _ e).2
   . rw[ah hb] at q
     exact st (I.hok b v q)
 have bs:=I.base
 refine⟨I.ok,I.os,I.bare,⟨bs.keep,bs.slot,fun b ob q n hx=>k0 b (bs.free b ob q n hx),bs.there,fun b xs q=>k b _ (bs.tups b xs q) (fun _ _ y=>nomatch y),fun b o' u' q=>?_,fun b ps q=>?_⟩,I.loc,I.cell,k0 _ I.free,fun x c z=>k0 _ (I.freeC x c z),fun p hp=>?_,hok,I.len⟩
 . have q2:=bs.frzs b o' u' q
   rw[ah fun z=>by rw[z] at q;exact nf o' u' q];exact q2
 . obtain⟨m,q2⟩:=bs.tbls b ps q
   exact⟨m,k b _ q2 fun _ _ y=>by cases y⟩
 . obtain⟨p1,p2,p3⟩:=I.pin p hp
   exact⟨p1,k0 _ p2,p3⟩
end
end L2
namespace HT
open PySem PySem.Spec PyProof.Rows L2
variable {prog:Program}{w:World}{A:Around}{E:Value->Shared->Prop}{s:Shared}
theorem getItem_tuple_whole {t sl:Addr}{items:Array Value}{vl vu:Value}{lo hi:Option Int}{Q:Value->Shared->Prop}(ht:IsTup s.heap t items) (hs:s.heap.IsSliceOf sl vl vu .none) (pl:IsPart vl lo) (pu:IsPart vu hi)
   (h1:sIx items.size 0 lo=0) (h2:sIx items.size items.size hi=items.size)
   (h:Q (.ref t) s):wpAny (model prog w) A (getItem (.ref t) (.ref sl)) Q E s:=by
 obtain⟨os,hos,hcs,hds⟩:=id hs
 have hTs:s.TypeIs (.ref sl) "slice" := ⟨os,hos,hcs⟩
 unfold getItem
 try with_reducible refine AZ ?_
 first|refine Aa (Ae ?_)|skip
 refine Aa (HM ht.typeIs (by decide) ?_)
 refine Aa (Bn (name:=Bq "__getitem__") ht.typeIs Bz
   (Bm Bz ht.typeIs entry_tuple_getitem ?_ (args_tuple_getitem _ _)))
 show wpAny _ _ (Fd (.ref t) >>= _) _ _ s
 refine Aa (tupleItemsOf_ ht ?_)
 refine Aa (Dr hTs ?_)
 rw[if_pos (by decide)]
 refine Aa (iz hs pl pu ?_)
 have hyes:((((sIx items.size 0 lo:Nat):Int) == 0 && (1:Int) == 1 && (sIx items.size items.size hi - sIx items.size 0 lo) == items.size)=true):=by
   rw[h1,h2];simp
 show wpAny _ _ (if (((sIx items.size 0 lo:Nat):Int) == 0 && (1:Int) == 1 && (sIx items.size items.size hi - sIx items.size 0 lo) == items.size)=true then _ else _) _ _ s
 rw[if_pos hyes]
 unfold Builtin.Tuple.tupleIsExact
 refine Aa (Aa (Dr ht.typeIs (Ae ?_)))
 rw[if_pos (by decide)]
 refine Aa (CH ?_)
 exact Ae ⟨_,rfl,Ae h⟩
theorem cat_tup0 {t b:Addr}{vs ws:List Value}{Q:Value->Shared->Prop}(ht:IsTup s.heap t vs.toArray) (hb:IsTup s.heap b ws.toArray) (hv:vs=[])
   (h1:Q (.ref b) s):wpAny (model prog w) A (binaryOp .Add (.ref t) (.ref b)) Q E s:=by
 obtain⟨⟨cls,dd,data,sl⟩,ho,hc,n,hd⟩:=id ht
 obtain⟨⟨cls2,dd2,data2,sl2⟩,ho2,hc2,n2,hd2⟩:=id hb
 simp only at hc hd hc2 hd2
 subst hc hd hc2 hd2
 exact Hz ⟨_,ho,rfl⟩ ⟨_,ho2,rfl⟩ Fv Hi Ec DU (DJ _ _)
     (tuple_addW0 t b vs.toArray ws.toArray n n2 dd dd2 sl sl2 (by simp[hv])) ⟨ho,ho2,h1⟩
end HT
namespace L2
open PySem PySem.Spec PyProof.Rows
section
variable {X:Cx}
theorem a1c {xs:List V}{lo hi:Option Int}(h1:HT.sIx xs.length 0 lo=0) (h2:HT.sIx xs.length xs.length hi=xs.length):cutV xs lo hi=xs:=by
 unfold cutV
 rw[h1,h2,CW,DM,BD]
noncomputable def a0e (K:Ab):V->Option Int->Option Int->Hp->VK->Prop:=fun x lo hi H Q=>∃a xs,x=.ref a/\SqT K H a xs/\∀p H',Same H H'->SqT K H' p (cutV xs lo hi)->Q (.ref p) H'
theorem i6:SlR X (a0e X.K):=by
 intro pins s σ H x v vl vu lo hi sl Q I rx hs pl pu h
 obtain⟨a,xs,rfl,hx,q⟩:=h
 by_cases hw:HT.sIx xs.length 0 lo=0/\HT.sIx xs.length xs.length hi=xs.length
 . cases rx
   obtain⟨its,r,ht,hz⟩:=I.tuple hx
   have hlen:its.toArray.size=xs.length:=by rw[Ar];exact r.length.symm
   refine⟨"tuple",_,Bz.lookup,ht.typeIs,?_⟩
   refine HT.getItem_tuple_whole ht hs pl pu (by rw[hlen];exact hw.1) (by rw[hlen];exact hw.2) ?_
   refine⟨.ref a,H,I,rfl,q a H (Same.refl _) ?_⟩
   rw[a1c hw.1 hw.2];exact hx
 . exact r9 pins s σ H (.ref a) v vl vu lo hi sl Q I rx hs pl pu ⟨a,xs,rfl,hx,hw,fun p hp=>q p _ (ad hp _) (SqT.of aa)⟩
noncomputable def xq (K:Ab):R2:=fun x y H Q=>∃a b xs ys,x=.ref a/\y=.ref b/\SqT K H a xs/\SqT K H b ys/\xs.length+ys.length<=sizeLine/\∀p H',Same H H'->SqT K H' p (xs++ys)->Q (.ref p) H'
theorem xf:OpR X (binaryOp .Add) (xq X.K):=by
 intro pins s σ H x y v u Q I rx ry h
 obtain⟨a,b,xs,ys,rfl,rfl,ha,hb,hz,q⟩:=h
 by_cases hx:xs=[]
 . cases rx
   cases ry
   obtain⟨its,r1,p1,_⟩:=I.tuple ha
   obtain⟨its2,r2,p2,_⟩:=I.tuple hb
   refine HT.cat_tup0 p1 p2 (r1.nil_iff.mpr hx) ⟨.ref b,H,I,rfl,q b H (Same.refl _) ?_⟩
   rw[hx];exact hb
 . exact oa pins s σ H (.ref a) (.ref b) v u Q I rx ry ⟨a,b,xs,ys,rfl,rfl,ha,hb,hx,hz,fun z=>q a H (Same.refl _) (by rw[z,BZ];exact ha),fun _ p hp=>q p _ (ad hp _) (SqT.of aa)⟩
end
noncomputable def Itr2 (lo:Int) (n:Nat):It:=⟨fun i _=>i<n,fun i H x H'=>H'=H/\x=.int (lo+i*2),fun i _=>n<=i⟩
theorem yh {P:Program}{w:World}{K:Ab}{tg:Expr}(it:Addr) (lo:Int) (n:Nat):Turn P w K tg (Itr2 lo n) [it] it (fun i h=>IsRangeIter h it (lo+(i:Nat)*2) ((n:Int) - (i:Nat)) 2) where
 mem:=by simp
 obj:=fun i h st b hb=>by
   obtain rfl:b=it:=by simpa using hb
   exact⟨_,st,fun v z=>by
     have z':Data.fields _=Data.cell v:=z
     cases z'⟩
 keep:=fun i h h' st k=>k it (by simp) _ st
 item:=by
   intro X hP hw hK hc i pins s σ H E I hf st hg
   subst hP hw hK
   obtain⟨f0,f1,f2,f3,f4,f5⟩:=hf it (by simp)
   refine (IU (prog:=X.prog) (w:=X.w) (I.ok.hd hc) it lo 2 n).item i s _ _ hg st fun v h' tk hv st' kk=>?_
   obtain⟨t,rfl⟩:=hv
   have I1:Inv X pins σ H { s with heap:=h',toks:=tk }:=I.turned (fun b o hb e=>kk b o (by simpa using hb) e) f0 f1 f3 f4 f5
   exact⟨_,rfl,qp (s:={ s with heap:=h',toks:=tk }) (n := "range_iterator") st' rfl rfl (by decide) ⟨.int (lo+i*2),H,I1,⟨t,rfl⟩,⟨rfl,rfl⟩,st',fun b hb=>(hf b hb).1⟩⟩
 done:=by
   intro X hP hw hK hc i pins s σ H E I hf st hg
   subst hP hw hK
   obtain⟨f0,f1,f2,f3,f4,f5⟩:=hf it (by simp)
   exact FY (I.ok.hd hc) st (by have:n<=i:=hg;omega) fun h' eb=>⟨rfl,I.turned (t':=s.toks) (fun b o hb e=>eb b o hb e) f0 f1 f3 f4 f5⟩
 self:=fun _ _ _ _ _ st h=>FZ st h
section
variable {X:Cx}{tg:Expr}
theorem a3s {a b:Int}(h1 : -1000000<=a) (h2:a<1000000) (h3 : -1000000<=b) (h4:b<1000000):Hq a b 2=true:=by
 have fit:∀{x:Int},-10000000<=x->x<10000000->EW x=true:=fun {x} y z=>by
   unfold EW
   simp only[Cc,decide_eq_true_eq]
   omega
 have sz:Cf a b 2=(((b - a+1) / 2).toNat:Int):=by
   unfold Cf
   rw[if_pos (by decide)]
   split<;>omega
 unfold Hq
 rw[sz,fit (by omega) (by omega),fit (by omega) (by omega),fit (by decide) (by decide),fit (by omega) (by omega),if_pos (by decide),fit (by omega) (by omega)]
 simp
theorem a8p {x:Int}:EM x 2=false:=by
 unfold EM
 have:decide ((if ((2:Int) == 0)=true then 0 else (2:Int).natAbs.log2 / 30+1)>300)=false:=by decide +kernel
 simp only[this,Gq]
theorem a5l {a b:Int}:Cf a b 2=(((b - a+1) / 2).toNat:Int):=by
 unfold Cf
 rw[if_pos (by decide)]
 split<;>omega
theorem a2y {pins:List (Addr×Obj)}{σ:St}{H:Hp}{s:Shared}{R:It->Hp->Prop}{E:Value->Shared->Prop}{lo hi:Int}{t u v:Tok}{tk:Nat}(I:Inv X pins σ H s) (h1 : -1000000<=lo) (h2:lo<1000000) (h3 : -1000000<=hi) (h4:hi<1000000)
   (q:R (Itr2 lo ((hi - lo+1) / 2).toNat) H):wpAny (model X.prog X.w) X.A (pyIter (.ref s.heap.objs.size)) (PIE X pins σ tg R) E { s with heap:=s.heap.push { cls:=.type "range",data:=.fields #[.int lo t,.int hi u,.int 2 v] },toks:=tk }:=by
 refine Hv (IV ..) (a3s h1 h2 h3 h4) ?_
 have I1:Inv X pins σ H { s with heap:=s.heap.push { cls:=.type "range",data:=.fields #[.int lo t,.int hi u,.int 2 v] },toks:=tk }:=I.kept fun b o e=>Ad _ e
 refine⟨(s.heap.push { cls:=.type "range",data:=.fields #[.int lo t,.int hi u,.int 2 v] }).objs.size,[(s.heap.push { cls:=.type "range",data:=.fields #[.int lo t,.int hi u,.int 2 v] }).objs.size],_,_,H,rfl,
   I1.kept (t':=tk) fun b o e=>Ad _ e,yh _ lo ((hi - lo+1) / 2).toNat,?_,fun b hb=>?_,q⟩
 . have e1:lo+((0:Nat):Int)*2=lo:=by simp
   have e2:((((hi - lo+1) / 2).toNat:Nat):Int) - ((0:Nat):Int)=Cf lo hi 2:=by rw[a5l];omega
   show IsRangeIter _ _ (lo+((0:Nat):Int)*2) (((((hi - lo+1) / 2).toNat:Nat):Int) - ((0:Nat):Int)) 2
   rw[e1,e2]
   exact An _ rfl
 . obtain rfl:b=(s.heap.push { cls:=.type "range",data:=.fields #[.int lo t,.int hi u,.int 2 v] }).objs.size:=by simpa using hb
   exact I1.fpOk (Ah _) (I1.hok.fresh (Ah _))
noncomputable def a6n (ta:TA):TI:=fun σ H R=>ta σ H fun vs H1=>∃i j:Int,vs=[.int i,.int j,.int 2]/\(-1000000<=i/\i<1000000 /\ -1000000<=j/\j<1000000)/\R (Itr2 i ((j - i+1) / 2).toNat) H1
theorem a2n {a b c:Expr}{ta:TA}{p pos:Pos}(hg:Gl X "range") (hm:X.mg "range" = none) (ha:PA X [a,b,c] ta) (hs:starEach [a,b,c] X.env=[(false,eval a X.env),(false,eval b X.env),(false,eval c X.env)]:=by rfl) (hs2:starEach [b,c] X.env=[(false,eval b X.env),(false,eval c X.env)]:=by rfl) :
   PI X tg (.Call (.Name "range" p) [a,b,c] [] pos) (a6n ta):=by
 intro pins s σ H R I h
 refine Call_ (ii I hg hm boot_range (Cg (thn (ha pos pins s σ H _ I h) fun us s1 ⟨vs,H1,I1,r1,q1⟩=>?_) (by rw[hs,hs2]) (by rw[hs2];rfl)))
 obtain⟨i,j,e,⟨q1,q2,q3,q4⟩,q⟩:=q1
 subst e
 cases r1 with
 | cons r rr =>
   cases rr with
   | cons r' rr =>
     cases rr with
     | cons r'' rr =>
       cases rr
       obtain⟨t,rfl⟩:=r
       obtain⟨t',rfl⟩:=r'
       obtain⟨t'',rfl⟩:=r''
       exact call_range_3 (by decide) (a2y I1 q1 q2 q3 q4 q) (.inl a8p)
theorem uk {a b c:Expr}{ta:TA}{p pos:Pos}(hg:Gl X "range") (hm:X.mg "range" = none) (ha:QA X [a,b,c] ta) (hs:starEach [a,b,c] X.env=[(false,eval a X.env),(false,eval b X.env),(false,eval c X.env)]:=by rfl) (hs2:starEach [b,c] X.env=[(false,eval b X.env),(false,eval c X.env)]:=by rfl):QI X tg (.Call (.Name "range" p) [a,b,c] [] pos) (a6n ta):=⟨a2n hg hm ha.run hs hs2⟩
theorem rk {lo:Int}{n:Nat}{g:TG}{tb:TS}{D:Ends}{σ:St}{H:Hp}(Pv:Nat->St->Hp->Prop) (h0:Pv 0 σ H)
   (hs:∀i σ H,i<n->Pv i σ H->g (.int (lo+i*2)) σ H fun σ2 H2=>tb { D with nx:=Pv (i+1),ct:=Pv (i+1),bk:=D.nx } σ2 H2) (hd:∀σ H,Pv n σ H->D.nx σ H) :
   ∃W:Nat->Nat->St->Hp->Prop,(∃m,W 0 m σ H)/\∀i m σ H,W i m σ H->
     ((Itr2 lo n).stop i H/\D.nx σ H)\/((Itr2 lo n).go i H/\∃N:St->Hp->Prop,(∀σ' H',N σ' H'->∃m',m'<m/\W (i+1) m' σ' H')/\∀x H',(Itr2 lo n).yld i H x H'->g x σ H' fun σ2 H2=>tb { D with nx:=N,ct:=N,bk:=D.nx } σ2 H2):=by
 refine⟨fun i m σ H=>m=n - i/\i<=n/\Pv i σ H,⟨n,rfl,AG _,h0⟩,?_⟩
 rintro i m σ H ⟨rfl,hi,hp⟩
 by_cases c:i<n
 . refine .inr ⟨c,Pv (i+1),fun σ' H' z=>⟨n - (i+1),by omega,rfl,c,z⟩,fun x H' y=>?_⟩
   obtain⟨rfl,rfl⟩:=y
   exact hs i σ _ c hp
 . obtain rfl:i=n:=by omega
   exact .inl ⟨Ah _,hd σ H hp⟩
end
noncomputable def Itk (a:Addr) (od:Obj) (kvs:List (Key×V)):It where
 go:=fun i H=>H a=some (.frz od (.dK kvs))/\i<kvs.length
 yld:=fun i H x H'=>H'=H/\(kvs.map fun kv=>kV kv.1)[i]? = some x
 stop:=fun i H=>H a=some (.frz od (.dK kvs))/\kvs.length<=i
noncomputable def a78 (od:Obj) (kvs:List (Key×V)) (es:Array DictEntry) (ep:Nat):Prop:=od.ExactDict/\od.data=.dict es ep/\Paired (fun (p:Key×V) (e:DictEntry)=>RelV (kV p.1) e.key) kvs es.toList
theorem a2l {P:Program}{w:World}{od:Obj}{es:Array DictEntry}{ep:Nat}:∀{kvs:List (Key×V)}{vs:List (Key×Value)}{l:List DictEntry},KV kvs vs->PySem.Pairs (ci P w) l vs->Paired (fun (p:Key×V) (e:DictEntry)=>RelV (kV p.1) e.key) kvs l
 | _,_,_,.nil,.nil=>.nil
 | _,_,_,.cons h t,.cons h1 h2 t2=>.cons (by rw[h.1];exact a00 h1) (a2l (od:=od) (es:=es) (ep:=ep) t t2)
theorem Paired.nthK {α β:Type}{F:α->β->Prop}:∀{l₁:List α}{l₂:List β}{i:Nat}{a:α}{b:β},Paired F l₁ l₂->l₁[i]? = some a->l₂[i]? = some b->F a b
 | _,_,0,_,_,.cons h t,h1,h2=>by cases h1;cases h2;exact h
 | _,_,i+1,_,_,.cons h t,h1,h2=>Paired.nthK (i:=i) t (by simpa using h1) (by simpa using h2)
theorem a7l {P:Program}{w:World}{K:Ab}{tg:Expr}{a J:Addr}{od:Obj}{kvs:List (Key×V)}{es:Array DictEntry}{ep:Nat}(hd:a78 od kvs es ep) :
   Turn P w K tg (Itk a od kvs) [J] J (fun i h=>h.IsKeyIter J a i es.size ep) where
 mem:=by simp
 obj:=fun i h st b hb=>by
   have e:b=J:=by simpa using hb
   subst e
   obtain⟨o,h1,h2,h3⟩:=st
   exact⟨o,h1,fun v z=>by rw[h3] at z;cases z⟩
 keep:=fun i h h' st k=>by
   obtain⟨o,h1,h2⟩:=st
   exact⟨o,k J (by simp) o h1,h2⟩
 item:=by
   intro X hP hw hK hc i pins s σ H E I hf st hg
   subst hP hw hK
   obtain⟨f0,f1,f2,f3,f4,f5⟩:=hf J (by simp)
   obtain⟨g1,g2⟩:=I.hok a _ hg.1
   have hsz:es.size=kvs.length:=by
     have:=hd.2.2.length
     rw[AU] at this;exact this.symm
   refine vm st g1 hd.2.1 (I.ok.hd hc) (fun hn h' st' sb=>?_) (fun hn=>absurd hg.2 (by omega))
   have I1:Inv X pins σ H { s with heap:=h',toks:=s.toks }:=I.turned (fun b o hb e=>(sb.2 b hb).trans e) f0 f1 f3 f4 f5
   have hk:RelV (kV (kvs[i]'hg.2).1) es[i].key:=Paired.nthK (F:=fun (p:Key×V) (e:DictEntry)=>RelV (kV p.1) e.key) hd.2.2 (i:=i) (a:=kvs[i]'hg.2) (b:=es[i]) (Ai hg.2) (by rw[BJ];exact Fu hn)
   refine⟨_,rfl,letGo_keyiter st' ⟨kV (kvs[i]'hg.2).1,H,I1,hk,⟨rfl,by rw[Ak,Ai hg.2];rfl⟩,st',fun b hb=>(hf b hb).1⟩⟩
 done:=by
   intro X hP hw hK hc i pins s σ H E I hf st hg
   subst hP hw hK
   obtain⟨f0,f1,f2,f3,f4,f5⟩:=hf J (by simp)
   obtain⟨g1,g2⟩:=I.hok a _ hg.1
   have hsz:es.size=kvs.length:=by
     have:=hd.2.2.length
     rw[AU] at this;exact this.symm
   exact vm st g1 hd.2.1 (I.ok.hd hc) (fun hn=>absurd hg.2 (by omega)) (fun _ h' eb=>⟨rfl,I.turned (t':=s.toks) (fun b o hb e=>eb b o hb e) f0 f1 f3 f4 f5⟩)
 self:=fun _ _ _ _ _ st h=>wpAny_pyIter_keyiter st h
noncomputable def a3q (X:Cx) (tl:TE):TI:=fun σ H R=>tl σ H fun x H1=>∃a kvs,x=.ref a/\H1 a=some (.dK kvs)/\∀od,NF X a->R (Itk a od kvs) (upd H1 a (.frz od (.dK kvs)))
theorem a6j {X:Cx}{tg l:Expr}{tl:TE}(hl:PE X l tl):PI X tg l (a3q X tl):=by
 intro pins s σ H R I h
 refine thn (hl pins s σ H _ I h) fun v s1 ⟨x,H1,I1,r1,a,kvs,ex,e,q⟩=>?_
 subst ex
 cases r1
 obtain⟨z,hd,vs,rel,od,es,ep,h1,hc,h2,h3,h4,h5⟩:=(show ObjOk X.prog X.w H1 s1.heap a (.dK kvs) from I1.hok a _ e)
 have I2:Inv X pins σ (upd H1 a (.frz od (.dK kvs))) s1:=I1.write (x:=a) (e:=a) (h':=s1.heap) (t':=s1.toks) (by rw[e];exact True.intro) (.inl rfl) (fun _ _ _ z=>z) ⟨od,h1⟩ ⟨h1,z,hd,vs,rel,od,es,ep,h1,hc,h2,h3,h4,h5⟩
 have ent:a78 od kvs es ep:=⟨hc,h2,a2l (od:=od) (es:=es) (ep:=ep) rel h4⟩
 refine a5o hd h1 hc h2 ?_
 refine⟨s1.heap.objs.size,[s1.heap.objs.size],_,_,upd H1 a (.frz od (.dK kvs)),rfl,I2.kept (t':=s1.toks) fun b o e=>Ad _ e,a7l ent,⟨_,An _ rfl,rfl,rfl⟩,fun b hb=>?_,q od (I1.nf e fun _ _ z=>nomatch z)⟩
 have e:b=s1.heap.objs.size:=by simpa using hb
 subst e
 exact I2.fpOk (Ah _) (I2.hok.fresh (Ah _))
theorem a6l {X:Cx}{tg l:Expr}{tl:TE}(hl:QE X l tl):QI X tg l (a3q X tl):=⟨a6j hl.run⟩
noncomputable def a3j (X:Cx) (t:TS):TS:=fun D σ H=>t { D with nx:=fun σ' H'=>∃a o u,H' a=some (.frz o u)/\NF X a/\D.nx σ' (upd H' a u) } σ H
theorem a8o {X:Cx}{st:Stmt}{t:TS}(h:QS X st t):QS X st (a3j X t):=⟨fun pins s σ H D I q=>thn (h.run pins s σ H _ I q) fun f s1 p=>by
 cases f with
 | next=>obtain⟨σ',H',I',a,o,u,e,nf,q'⟩:=p;exact⟨σ',_,I'.thaw e nf,q'⟩
 | brk=>exact p
 | cont=>exact p
 | ret u=>exact p⟩
theorem a4e {a:Addr}{od:Obj}{kvs:List (Key×V)}{g:TG}{tb:TS}{D:Ends}{σ:St}{H:Hp}(Pv:Nat->St->Hp->Prop) (h0:Pv 0 σ H) (hl:∀i σ H,i<=kvs.length->Pv i σ H->H a=some (.frz od (.dK kvs)))
   (hs:∀i x σ H,(kvs.map fun kv=>kV kv.1)[i]? = some x->Pv i σ H->g x σ H fun σ2 H2=>tb { D with nx:=Pv (i+1),ct:=Pv (i+1),bk:=D.nx } σ2 H2) (hd:∀σ H,Pv kvs.length σ H->D.nx σ H) :
   ∃W:Nat->Nat->St->Hp->Prop,(∃m,W 0 m σ H)/\∀i m σ H,W i m σ H->
     ((Itk a od kvs).stop i H/\D.nx σ H)\/((Itk a od kvs).go i H/\∃N:St->Hp->Prop,(∀σ' H',N σ' H'->∃m',m'<m/\W (i+1) m' σ' H')/\∀x H',(Itk a od kvs).yld i H x H'->g x σ H' fun σ2 H2=>tb { D with nx:=N,ct:=N,bk:=D.nx } σ2 H2):=by
 refine⟨fun i m σ H=>m=kvs.length - i/\i<=kvs.length/\Pv i σ H,⟨kvs.length,by simp,AG _,h0⟩,?_⟩
 rintro i m σ H ⟨rfl,hi,p⟩
 have q:=hl i σ H hi p
 by_cases hlt:i<kvs.length
 . refine .inr ⟨⟨q,hlt⟩,Pv (i+1),fun σ' H' p'=>⟨kvs.length - (i+1),by omega,rfl,hlt,p'⟩,fun x H' y=>?_⟩
   obtain⟨e,y⟩:=y
   subst e
   exact hs i x σ _ y p
 . have e:i=kvs.length:=by omega
   subst e
   exact .inl ⟨⟨q,Ah _⟩,hd σ H p⟩
open PySem.Builtin
section
variable {prog:Program}{w:World}{d:Addr}{es:Array DictEntry}{ep:Nat}{od:Obj}
end
section
variable {X:Cx}
end
section
variable {prog:Program}{w:World}{A:Around}{E:Value->Shared->Prop}{s:Shared}{d:Addr}{es:Array DictEntry}{ep:Nat}{od:Obj}
end
noncomputable def yy (K:Ab) (J:It) (H1:Hp) (σ:St) (ix:List Nat) (tc:TT) (te:TE) (Q:VK):Prop:=∀D,H1 D=none->
 ∃W:Nat->Nat->Hp->Prop,(∃m,W 0 m (upd H1 D (.lst [])))/\∀i m H,W i m H->
   (J.stop i H/\Q (.ref D) H)\/(J.go i H/\∀x H',J.yld i H x H'->∃p a b,x=.ref p/\SqT K H' p [a,b]/\tc (some a::some b::bz σ ix) H' fun c H2 =>
     if c=true then te (some a::some b::bz σ ix) H2 fun y H3=>∃ys,H3 D=some (.lst ys)/\ys.length<sizeLine/\∃m',m'<m/\W (i+1) m' (upd H3 D (.lst (ys++[y])))
     else ∃m',m'<m/\W (i+1) m' H2)
noncomputable def a3f (K:Ab) (ix:List Nat) (wi:TI) (tc:TT) (te:TE):TE:=fun σ H Q=>wi σ H fun J H1=>yy K J H1 σ ix tc te Q
section
variable {X:Cx}
end
section
variable {X:Cx}
theorem a5u {pins:List (Addr×Obj)}{σ:St}{H:Hp}{s:Shared}{N:List Str}{x x2:Str}{sc:Scope}{cl:List (Str×Addr)}{fp:List Addr}{ix:List Nat}{h1:Heap}{m:Str->Option Value}{tk:Nat}
   (I:Inv X pins σ H s) (hkind:sc.kind=.function) (hN:N=x::x2::ix.map fun j=>(X.N[j]?).getD "")
   (hsub:∀y c,cl.lookup y=some c->X.env.cells.lookup y=some c) (hhas:∀y,((relabel sc X.env).names.lookup y=some .cell\/(relabel sc X.env).names.lookup y=some .free)->∃c,cl.lookup y=some c)
   (hix:∀j∈ix,∃y,X.N[j]? = some y/\X.env.kindOf y=some .cell/\(relabel sc X.env).names.lookup y=some .cell)
   (hfp:∀b∈fp,FpOk X pins H b) (hlt:∀b∈fp,b<s.heap.objs.size)
   (hns:h1.Ns s.heap.objs.size m) (hk:∀b o,s.heap.get? b=some o->h1.get? b=some o) :
   Inv (blk X N s H sc cl s.heap.objs.size fp) [] (none::none::bz σ ix) H { s with heap:=h1,toks:=tk }:=by
 have fresh:H s.heap.objs.size=none:=I.hok.fresh (Ah _)
 refine⟨⟨I.ok.mod,hkind,I.ok.glob,I.ok.blt,Ah _,fun y z c h1 h2=>I.ok.inj y z c (hsub y c h1) (hsub z c h2),fun y hy=>hhas y hy,fun y c z _=>absurd (show false=true from z) (by decide),I.ok.hd,I.ok.frames,.inl rfl,
   fun b hb=>⟨Az (hlt b hb),fun y c e=>(hfp b hb).2.2.2.2.1 y c (hsub y c e)⟩,I.bs,Ax I.ok.bsz I.sz,fun b o e hb=>?_,fun b hb z=>?_,I.stack,I.stkFree⟩,
   rfl,I.bare,Un.kept hk,⟨m,hns,fun i y v e1 e2 e3=>?_⟩,fun y c e=>?_,fresh,fun y c e=>I.freeC y c (hsub y c e),fun p hp=>absurd (show p∈([]:List (Addr×Obj)) from hp) (by simp),I.hok.kept hk,?_⟩
 . rcases (hfp b hb).2.2.2.1 with z|z
   . exact I.ok.noex b o e z
   . exact absurd (AC (Ap e) (Ax I.ok.bsz z)) (Bi _)
 . rcases Al.mp (I.stkSub b z) with q|q
   . exact (hfp b hb).2.1 q
   . exact (hfp b hb).2.2.1 q
 . cases i with
   | zero =>
     have e2':(some none:Option (Option V))=some (some v):=e2
     cases e2'
   | succ i =>
     cases i with
     | zero =>
       have e2':(some none:Option (Option V))=some (some v):=e2
       cases e2'
     | succ i =>
       have e2':(bz σ ix)[i]? = some (some v):=by simpa using e2
       unfold bz at e2'
       rw[Ak] at e2'
       cases q:ix[i]? with
       | none=>rw[q] at e2';cases e2'
       | some j =>
         rw[q] at e2'
         have e3':(σ[j]?).getD none=some v:=by simpa using e2'
         have e4:σ[j]? = some (some v):=by
           cases q2:σ[j]? with
           | none=>rw[q2] at e3';cases e3'
           | some w=>rw[q2] at e3';simpa using e3'
         obtain⟨y',hy,hc,hr⟩:=hix j (AQ q)
         have ey:y'=y:=by
           have e1':N[i+1+1]? = some y:=e1
           rw[hN,DV,DV,Ak,q] at e1'
           have:=Av e1'
           simpa [hy] using this
         subst ey
         obtain⟨m0,hn0,hl0⟩:=I.loc
         obtain⟨u,r,l⟩:=hl0 j y' v hy e4 (.inr (.inl hc))
         refine⟨u,r,.inr ⟨.inl hr,?_⟩⟩
         rcases l with⟨k,_⟩|⟨_,c,ec,ic⟩
         . rw[hc] at k;cases k
         . obtain⟨c',ec'⟩:=hhas y' (.inl hr)
           have:=hsub y' c' ec'
           rw[ec] at this;cases this
           obtain⟨o,ho,hd⟩:=ic
           exact⟨c,ec',o,hk c o ho,hd⟩
 . obtain⟨v,o,ho,hd⟩:=I.cell y c (hsub y c e)
   exact⟨v,o,hk c o ho,hd⟩
 . show (none::none::bz σ ix).length=N.length
   rw[hN]
   simp[bz]
theorem a54 {elt iter:Expr}{x x2:Str}{px px2 ptt pos:Pos}{kt:Nat}{ifs:List Expr}{sc:Scope}{cl:List (Str×Addr)}{ix:List Nat}{wi:TI}{tc:TT}{te:TE}(N:List Str)
   (hc:X.calm=true) (hi:PI X (.Tuple [.Name x px,.Name x2 px2] kt ptt) iter wi) (hif:∀s H C ex,PTs (blk X N s H sc cl C ex) ifs tc) (he:∀s H C ex,PE (blk X N s H sc cl C ex) elt te)
   (hkind:sc.kind=.function) (hN:N=x::x2::ix.map fun j=>(X.N[j]?).getD "") (hnd:N.Nodup) (hx:sc.names.lookup x=some .local) (hx2:sc.names.lookup x2=some .local)
   (hcl:closureFor sc X.env=pure cl) (hcell:∀y∈sc.names,y.2≠.cell) (hnames:∀y∈sc.names,y.2=.local->sc.names.lookup y.1=some .local)
   (hsub:∀y c,cl.lookup y=some c->X.env.cells.lookup y=some c) (hhas:∀y,((relabel sc X.env).names.lookup y=some .cell\/(relabel sc X.env).names.lookup y=some .free)->∃c,cl.lookup y=some c)
   (hix:∀j∈ix,∃y,X.N[j]? = some y/\X.env.kindOf y=some .cell/\(relabel sc X.env).names.lookup y=some .cell)
   (hs:∀x,foldedSetIterable iter X.env x=pure x:=by intro _;rfl) :
   PE X (.ListComp elt [⟨.Tuple [.Name x px,.Name x2 px2] kt ptt,iter,ifs,0⟩] sc pos) (a3f X.K ix wi tc te):=by
 intro pins s σ H Q I h
 rw[eval_ListComp]
 refine Fx (use:=none) rfl hs hcl hkind hnames (thn (hi pins s σ H _ I h) fun v s1 h1=>thn h1 fun itv s2 h2=>?_)
 obtain⟨it,fp,tn,J,H2,e,I2,T,st2,f2,q2⟩:=h2
 subst e
 have fr2:H2 s2.heap.objs.size=none:=I2.hok.fresh (Ah _)
 obtain⟨W,⟨m0,w0⟩,turn⟩:=q2 s2.heap.objs.size fr2
 refine AL ?_
 have I3:Inv X pins σ (upd H2 s2.heap.objs.size (.lst [])) { s2 with heap:=s2.heap.push { cls:=.type "list",dict:=none,data:=.seq ([]:List Value).toArray } }:=by
   exact I2.lnew (its:=[]) (ys:=[]) (t':=s2.toks) .nil (AG _)
 have lt2:∀b∈fp,b<s2.heap.objs.size:=fun b hb=>by
   obtain⟨o,ho,_⟩:=T.obj _ _ st2 b hb
   exact Ap ho
 have f3:∀b∈fp,FpOk X pins (upd H2 s2.heap.objs.size (.lst [])) b:=fun b hb=>⟨by rw[ah (Az (lt2 b hb))];exact (f2 b hb).1,(f2 b hb).2⟩
 generalize hs3:({ s2 with heap:=s2.heap.push { cls:=.type "list",dict:=none,data:=.seq ([]:List Value).toArray } }:Shared)=s3 at I3
 have hsz3:s2.heap.objs.size<=s3.heap.objs.size:=by rw[<- hs3];show _<=(s2.heap.push _).objs.size;rw[Bg];exact CD _
 have tn3:tn 0 s3.heap:=T.keep _ _ _ st2 fun b _ o e=>by rw[<- hs3];exact Ad _ e
 have lt3:∀b∈fp,b<s3.heap.objs.size:=fun b hb=>AC (lt2 b hb) hsz3
 refine He hcell (by intro y hy;simp at hy) (fun h4 hns4 hsb4=>?_) hkind
 have old:∀b o,s3.heap.get? b=some o->h4.get? b=some o:=fun b o e=>hsb4.extBut b o (Az (Ap e)) (Ad _ e)
 have I4:=a5u (m:=_) (tk:=s3.toks+([]:List (Str×Value)).length) (N:=N) I3 hkind hN hsub hhas hix f3 lt3 hns4 old
 have tn4:tn 0 h4:=T.keep _ _ _ tn3 fun b _ o e=>old b o e
 have fpB:∀{H':Hp},(∀b∈fp,H' b=none)->∀b∈fp,FpOk (blk X N s3 (upd H2 s2.heap.objs.size (.lst [])) sc cl s3.heap.objs.size fp) [] H' b:=fun {H'} hn b hb =>
   ⟨hn b hb,Az (lt3 b hb),I4.ok.exfs b hb,.inl hb,fun y c e=>(I4.ok.exf b hb).2 y c e,fun p hp=>absurd (show p∈([]:List (Addr×Obj)) from hp) (by simp)⟩
 have loop:codeAny (model X.prog X.w) X.A (.compLoop (.ListComp elt [⟨.Tuple [.Name x px,.Name x2 px2] kt ptt,iter,ifs,0⟩] sc pos) 0 (.ref it) (.ref s2.heap.objs.size) (compEnvC sc cl s3.heap.objs.size X.env))
     (compPost (model X.prog X.w) X.A X.xe none (EP X pins σ Q) (.ref s2.heap.objs.size) s3.heap.objs.size) { s3 with heap:=h4,toks:=s3.toks+([]:List (Str×Value)).length }:=by
   refine p5 (fun n s'=>∃i v0 v1 H',Inv (blk X N s3 (upd H2 s2.heap.objs.size (.lst [])) sc cl s3.heap.objs.size fp) [] (v0::v1::bz σ ix) H' s'/\tn i s'.heap/\(∀b∈fp,H' b=none)/\W i n H') ?_ m0
     ⟨0,none,none,_,I4,tn4,fun b hb=>(f3 b hb).1,w0⟩
   rintro n s5 ⟨i,v0,v1,H5,I5,st5,fr5,w5⟩
   rcases turn i n H5 w5 with⟨stop,qn⟩|⟨go,step⟩
   . refine thn (T.done (blk X N s3 (upd H2 s2.heap.objs.size (.lst [])) sc cl s3.heap.objs.size fp) rfl rfl rfl hc i [] s5 _ H5 _ I5 (fpB fr5) st5 stop) fun r s6 ⟨hr,I6⟩=>?_
     subst hr
     obtain⟨mm,hm,_⟩:=I6.loc
     refine⟨mm,hm,fun h7 sb7=>?_⟩
     have I7:Inv X pins σ H5 { s6 with heap:=h7 }:=by
       have hC:H5 s3.heap.objs.size=none:=I6.free
       have hc3:s3.heap.get? s3.heap.objs.size=none:=Ep (Ah _)
       have up:∀b o,b≠s3.heap.objs.size->s6.heap.get? b=some o->h7.get? b=some o:=fun b o hb e=>sb7.extBut b o hb e
       have neC:∀b o,s3.heap.get? b=some o->b≠s3.heap.objs.size:=fun b o e=>Az (Ap e)
       have u:=I6.base
       refine I3.call' (s':={ s6 with heap:=h7 }) (ch:=fp) I6.os ⟨fun b o e n hb hx=>?_,fun b o e n hb hx=>?_,fun b o e n hx=>u.free b o e n hx,fun b o e hx=>?_,u.tups,u.frzs,u.tbls⟩ (fun b o e=>?_) I6.bare fun b hb=>⟨(f3 b hb).2.2.2.1,(f3 b hb).2.1,(f3 b hb).2.2.2.2.1,(f3 b hb).2.2.2.2.2⟩
       . exact up b o (neC b o e) (u.keep b o e n hb hx)
       . obtain⟨sl,e1⟩:=u.slot b o e n hb hx
         exact⟨sl,up b _ (neC b o e) e1⟩
       . obtain⟨o',e1⟩:=u.there b o e hx
         exact⟨o',up b _ (neC b o e) e1⟩
       . refine (I6.hok b o e).stay (fun c v hc' q=>up c v ?_ q) (fun _ q=>q) fun _ _ q=>q
         rintro rfl
         rcases hc' with z|z
         . rw[<- z,hC] at e;cases e
         . rw[hC] at z;cases z
     exact⟨.ref s2.heap.objs.size,H5,I7,rfl,qn⟩
   . refine thn (T.item (blk X N s3 (upd H2 s2.heap.objs.size (.lst [])) sc cl s3.heap.objs.size fp) rfl rfl rfl hc i [] s5 _ H5 _ I5 (fpB fr5) st5 go) fun r s6 ⟨u,hr,h6⟩=>?_
     subst hr
     refine thn h6 fun _ s7 ⟨y,H7,I7,r7,y7,st7,fr7⟩=>?_
     have I7':=I7.pinned (fpB fr7) (T.obj _ _ st7)
     obtain⟨pp,ya,yb,rfl,hpp,step7⟩:=step y H7 y7
     have hPG:PG (blk X N s3 (upd H2 s2.heap.objs.size (.lst [])) sc cl s3.heap.objs.size fp) (.Tuple [.Name x px,.Name x2 px2] kt ptt) (gTup X.K 2 (kr (ba 0) (kr (ba 1) gNil))) :=
       a9z hc (gz (mo (i:=0) hnd (by show N[0]? = some x;rw[hN];rfl) (.inl (Cu hx)) (.inr (Cu hx))) (gz (mo (i:=1) hnd (by show N[1]? = some x2;rw[hN];rfl) (.inl (Cu hx2)) (.inr (Cu hx2))) zq))
     refine thn (hPG _ s7 _ H7 (.ref pp) _ (fun σ' H'=>σ'=some ya::some yb::bz σ ix/\H'=H7) I7' r7 ⟨pp,_,rfl,hpp,rfl,_,_,rfl,_,_,rfl,rfl,rfl,rfl⟩) fun _ s8 ⟨σ8,H8,I8,eσ,eH⟩=>?_
     subst eσ eH
     refine thn (hif _ _ _ _ _ s8 _ H8 _ I8 step7) fun ok s9 ⟨H9,I9,q9⟩=>?_
     have again:∀{H':Hp} {s':Shared} {m':Nat},Inv (blk X N s3 (upd H2 s2.heap.objs.size (.lst [])) sc cl s3.heap.objs.size fp) ([]++iq fp s7.heap) (some ya::some yb::bz σ ix) H' s'->m'<n->W (i+1) m' H'->
         ∃m,m<n/\∃i v0 v1 H',Inv (blk X N s3 (upd H2 s2.heap.objs.size (.lst [])) sc cl s3.heap.objs.size fp) [] (v0::v1::bz σ ix) H' s'/\tn i s'.heap/\(∀b∈fp,H' b=none)/\W i m H':=fun {H' s' m'} Ia hm wa=>by
       refine⟨m',hm,i+1,some ya,some yb,H',Ia.unpinned,T.keep _ _ _ st7 fun b hb o e=>(Ia.pin (b,o) (AE _ (AE _ (fz hb e)))).1,fun b hb=>?_,wa⟩
       obtain⟨o,e,d⟩:=T.obj _ _ st7 b hb
       exact (Ia.pin (b,o) (AE _ (AE _ (fz hb e)))).2.1
     cases ok with
     | false =>
       rw[if_neg Af] at q9 |-
       obtain⟨m',hm,wa⟩:=q9
       exact again I9 hm wa
     | true =>
       rw[if_pos rfl] at q9 |-
       refine thn (he _ _ _ _ _ s9 _ H9 _ I9 q9) fun v10 s10 ⟨z,H10,I10,r10,ys,hD,hl,m',hm,wa⟩=>?_
       exact thn (em _ s10 _ H10 (.ref s2.heap.objs.size) [z] (.ref s2.heap.objs.size) [v10] (fun _ H'=>H'=upd H10 s2.heap.objs.size (.lst (ys++[z]))) I10 rfl (.cons r10 .nil) ⟨_,ys,z,rfl,rfl,hD,hl,rfl⟩)
         fun _ s11 ⟨_,H11,I11,_,e11⟩=>again I11 hm (by rw[e11];exact wa)
 subst hs3
 exact Gg loop (T.self _ 0 _ _ _ tn4 loop)
theorem a2i {X:Cx}{elt iter:Expr}{x x2:Str}{px px2 ptt pos:Pos}{kt:Nat}{ifs:List Expr}{sc:Scope}{cl:List (Str×Addr)}{wi:TI}{tc:TT}{te:TE}{K:Ab}(hK:X.K=K) (N:List Str) (ix:List Nat) (hi:QI X (.Tuple [.Name x px,.Name x2 px2] kt ptt) iter wi)
   (hif:∀s H C ex,QTs (blk X N s H sc cl C ex) ifs tc) (he:∀s H C ex,QE (blk X N s H sc cl C ex) elt te)
   (hcl:closureFor sc X.env=pure cl:=by rfl) (hcs:ClIn X.env.cells cl:=by repeat' first|with_unfolding_all rfl|constructor) (hN:N=x::x2::ix.map (fun j=>(X.N[j]?).getD ""):=by rfl) (hnd:N.Nodup:=by decide +kernel)
   (hkm:cl.map (·.1)=N.tail.tail:=by rfl) (hkB:((relabel sc X.env).names.all fun y=>(match y.2 with|.cell=>false|.free=>false|_=>true) || decide (y.1∈N.tail.tail))=true:=by with_unfolding_all rfl)
   (hix:IxIn X sc ix:=by repeat' first|with_unfolding_all rfl|constructor)
   (hx:sc.names.lookup x=some .local:=by decide +kernel) (hx2:sc.names.lookup x2=some .local:=by decide +kernel) (hcell:∀z∈sc.names,z.2≠.cell:=by decide +kernel)
   (hnames:∀z∈sc.names,z.2=.local->sc.names.lookup z.1=some .local:=by decide +kernel)
   (hc:X.calm=true:=by rfl) (hkind:sc.kind=.function:=by rfl) (hs:∀x,foldedSetIterable iter X.env x=pure x:=by intro _;rfl) :
   QE X (.ListComp elt [⟨.Tuple [.Name x px,.Name x2 px2] kt ptt,iter,ifs,0⟩] sc pos) (a3f K ix wi tc te):=by
 subst hK
 exact⟨a54 N hc hi.run (fun s H C ex=>(hif s H C ex).run) (fun s H C ex=>(he s H C ex).run) hkind hN hnd hx hx2 hcl hcell hnames (a48 hcs.all) (a3b hkm hkB) hix.all hs⟩
end
end L2
namespace Ka
open PySem PyProof.Rows
theorem a87:typeLookup (.type "list") "keys" = pure none:=by rw[DB,CN];kernel_rfl
theorem ab2:typeLookup (.type "list") "__getattr__" = pure none:=by rw[DB,CN];kernel_rfl
theorem zd:isSubtype (.type "AttributeError") (.type "AttributeError")=pure true:=by rw[EG];kernel_rfl
section
variable {prog:Program}{w:World}{A:Around}{E:Value->Shared->Prop}{h:Heap}{g:Array GenState}{d:Drawn}{t:Nat}{os:OsState}{a:Addr}{o:Obj}
set_option maxHeartbeats 16000000 in
theorem aaz {tk:Tok}{Q:Fin->Shared->Prop}(hh:A.handled=none) {xs:Array Value}{n:Nat}{sl:Array (Option Value)}(hx:h.get? a=some { cls:=.type "list",dict:=none,data:=.seq xs n,slots:=sl })
   (hq:∀h' e t',(∀b u,h.get? b=some u->h'.get? b=some u)->(∃oe,h'.get? e=some oe/\oe.cls=.type "AttributeError")->h.objs.size<=h'.objs.size->E (.ref e) ⟨h',g,d,t',os⟩) :
   wpAny (model prog w) A (Builtin.«object.__getattribute__» ⟨[.ref a,.str "keys" tk],[]⟩) Q E ⟨h,g,d,t,os⟩:=by
 have hT:(⟨h,g,d,t,os⟩:Shared).TypeIs (.ref a) "list" := ⟨_,hx,rfl⟩
 have f4:=a87
 repeat (any_goals (first|assumption|wp_step))
 have hm:(Bq (toString "'" ++ toString ((IB "list").elim "list" fun x=>x.tpName)++toString "' object has no attribute '")++Bq "keys" ++ Bq "'").length<=sizeLine:=by decide +kernel
 generalize (Bq (toString "'" ++ toString ((IB "list").elim "list" fun x=>x.tpName)++toString "' object has no attribute '")++Bq "keys" ++ Bq "'")=msg at hm |-
 unfold raiseAttrError
 repeat (any_goals (first|assumption|wp_step))
 have f5:isSubtype (.type "AttributeError") (.type "AttributeError")=pure true:=zd
 dsimp only
 repeat (any_goals (first|assumption|wp_step))
 generalize hO:({ cls:=Value.type "AttributeError",data:=_ }:Obj)=oe
 generalize hT2:({ cls:=Value.type "tuple",data:=Data.seq #[Value.str msg t] }:Obj)=ot
 have hoc:oe.cls=.type "AttributeError" := by rw[<- hO]
 have hof:∃vs,oe.data=.fields vs:=⟨_,by rw[<- hO]⟩
 obtain⟨vs,hvs⟩:=hof
 have e1:((h.push ot).push oe).get? (h.push ot).objs.size=some oe:=An _ (by rw[<- hO];rfl)
 refine Hr hh (hq _ _ _ (fun b u hb=>?_) ⟨_,Bl _ e1 (Em (Di hvs _)),(Fo ..).trans hoc⟩ ?_)
 . have hlt:=Ap (Ad ot hb)
   rw[Heap.get?_update_ne _ _ _ _ (Az hlt)]
   exact Ad _ (Ad _ hb)
 . rw[Heap.size_update,size_push',size_push'];omega
set_option maxHeartbeats 16000000 in
theorem attr {Q:Option Value->Shared->Prop}(hh:A.handled=none) {xs:Array Value}{n:Nat}{sl:Array (Option Value)}(hx:h.get? a=some { cls:=.type "list",dict:=none,data:=.seq xs n,slots:=sl })
   (hq:∀h' t',(∀b u,h.get? b=some u->h'.get? b=some u)->h.objs.size<=h'.objs.size->Q none ⟨h',g,d,t',os⟩):wpAny (model prog w) A (getAttr? (.ref a) "keys") Q E ⟨h,g,d,t,os⟩:=by
 have hT:(⟨h,g,d,t,os⟩:Shared).TypeIs (.ref a) "list" := ⟨_,hx,rfl⟩
 have hT1:(⟨h,g,d,t+1,os⟩:Shared).TypeIs (.ref a) "list" := ⟨_,hx,rfl⟩
 have f2:=F.slot_list_getattribute.lookup
 have f3:=F.slot_list_getattribute.bind (.ref a)
 have f5:isSubtype (.type "AttributeError") (.type "AttributeError")=pure true:=zd
 unfold getAttr? getAttrBy?
 repeat (any_goals (first|assumption|wp_step))
 refine Ex F.slot_list_getattribute.plain F.entry_list_ga (F.slot_list_getattribute.check _ _ _ _ _ _ _ _ hT1 (F.args_list_getattribute_2 _ _) (aaz ?_ hx fun h' e t' k he hs=>?_))
 . exact hh
 obtain⟨oe,he1,he2⟩:=he
 have hTe:(⟨h',g,d,t',os⟩:Shared).TypeIs (.ref e) "AttributeError" := ⟨_,he1,he2⟩
 have f6:=ab2
 have hfin:=hq h' t' k hs
 show wpAny (model prog w) A (getattributeRaised (Value.ref a) (Value.str (Bq "keys") t) (Value.type "list") (.ref e) none false false) _ _ _
 repeat (any_goals (first|assumption|wp_step))
end
end Ka
namespace Ka
open PySem
theorem plain_loop:plainId "dict.update.loop" = true:=by decide +kernel
theorem entry_loop:entryFor table "dict.update.loop" = some Builtin.«dict.update.loop» := entryFor_of_fast (by kernel_rfl)
end Ka
namespace L2
open PySem PySem.Spec PyProof.Rows
noncomputable def kk (kv:Str×V):Key×V:=(Sum.inr kv.1,kv.2)
section
variable {X:Cx}{pins:List (Addr×Obj)}{σ:St}{H:Hp}{a p it:Addr}{ts:List Addr}{kvs:List (Str×V)}
noncomputable def Hd (H:Hp) (p:Addr) (kvs:List (Str×V)) (i:Nat):Hp:=upd H p (.dK ((kvs.take i).map kk))
theorem zb:∀{kvs:List (Str×V)}{x:Str},¬ x∈kvs.map (·.1)->valV (kvs.map kk) (Sum.inr x)=none
 | [],_,_=>rfl
 | kv::kvs,x,h=>by
   rw[AA,jw (fun e=>h (by rw[AA];exact Al.mpr (.inl (Dj e).symm)))]
   exact zb fun z=>h (Ao _ z)
theorem a9e (hn:(kvs.map (·.1)).Nodup) {i:Nat}{kv:Str×V}(hi:kvs[i]? = some kv):putK ((kvs.take i).map kk) (Sum.inr kv.1) kv.2=(kvs.take (i+1)).map kk:=by
 rw[BX,hi,AB,a66]
 . rfl
 . refine zb fun z=>?_
   obtain⟨hlt,rfl⟩:=Aq.mp hi
   rw[Hk] at z
   obtain⟨j,hj⟩:=List.getElem?_of_mem z
   have hj':=(Aq.mp hj).1
   rw[AS,Ac] at hj'
   rw[CZ (by omega)] at hj
   have e:(kvs.map (·.1))[i]? = some kvs[i].1:=by rw[Ak,hi];rfl
   have:=(HW (by rw[Ac];omega) hn).mp (hj.trans e.symm)
   omega
theorem qf {K:Ab}{H H':Hp}{l:Addr}{xs:List V}(e:Same H H') (h:SqL K H l xs):SqL K H' l xs:=by
 rcases h with (h|⟨o,h⟩)|h
 . exact .inl (.inl (e _ _ h))
 . exact .inl (.inr ⟨o,e _ _ h⟩)
 . exact .inr h
theorem a6o {α β:Type}{F:α->β->Prop}:∀{l₁:List α}{l₂:List β}{i:Nat}{a:α}{b:β},Paired F l₁ l₂->l₁[i]? = some a->l₂[i]? = some b->F a b
 | _,_,0,_,_,.cons h r,e1,e2=>by cases e1;cases e2;exact h
 | _,_,i+1,_,_,.cons h r,e1,e2=>a6o (i:=i) r (by simpa using e1) (by simpa using e2)
theorem a2w {A:Around}{R:Result->Shared->Prop}(hh:A.handled=none) (hp:H p=none) (hl:SqL X.K H a (ts.map V.ref)) (hts:Paired (fun t (kv:Str×V)=>SqT X.K H t [.str kv.1,kv.2]) ts kvs) (hn:(kvs.map (·.1)).Nodup) (hz:ts.length<=1000) (hip:it≠p) :
   ∀(k i:Nat) (s:Shared),kvs.length - i=k->i<=kvs.length->Inv X pins σ (Hd H p kvs i) s->s.heap.IsListIter it a i->(∀b∈[it],FpOk X pins (Hd H p kvs i) b)->
     (∀s',Inv X pins σ (Hd H p kvs kvs.length) s'->R (.ok (.ret .none)) s')->codeAny (model X.prog X.w) A (.builtin "dict.update.loop" ⟨[.ref p,.ref it,.int i 0,.none],[]⟩) R s:=by
 have hSame:∀i,Same H (Hd H p kvs i):=fun i=>ad hp _
 have hlen:=AD hts
 intro k
 induction k with
 | zero =>
   intro i s hk hi I hit hf q
   have e:i=kvs.length:=by omega
   obtain⟨its,rv,pl,_⟩:=I.list (qf (hSame i) hl)
   have hil:=rv.length
   rw[Ac] at hil
   refine BP Ka.entry_loop ?_
   rw[Br Ka.plain_loop _]
   show wpAny _ A.in1 (pyNext (.ref it) >>= _) _ _ s
   refine Aa (Ek hh hit pl.isList (by rw[Cr,BK (by omega)]) fun h' hk'=>?_)
   have I':Inv X pins σ (Hd H p kvs i) { s with heap:=h' }:=I.turnedL (ch:=[it]) (t':=s.toks) (fun b o hb e=>hk' b o (by simpa using hb) e) hf
   refine Aa (Ae (Ae (q _ ?_)))
   rw[<- e];exact I'
 | succ k ih =>
   intro i s hk hi I hit hf q
   have hlt:i<kvs.length:=by omega
   have hkv:kvs[i]? = some kvs[i]:=Ai hlt
   have ht:ts[i]? = some (ts[i]'(by omega)):=Ai _
   generalize ts[i]'(by omega)=t at ht
   generalize hg:kvs[i]=kv at hkv
   have hsq:=a6o hts ht hkv
   obtain⟨its,rv,pl,_⟩:=I.list (qf (hSame i) hl)
   have hx:its[i]? = some (.ref t):=by
     obtain⟨u,hu,ru⟩:=rv.get (x:=.ref t) (i:=i) (by rw[Ak,ht];rfl)
     cases ru;exact hu
   refine BP Ka.entry_loop ?_
   rw[Br Ka.plain_loop _]
   show wpAny _ A.in1 (pyNext (.ref it) >>= _) _ _ s
   refine Aa (Eb hit pl.isList (by rw[Cr];exact hx) fun h' hit' hs'=>?_)
   have I':Inv X pins σ (Hd H p kvs i) { s with heap:=h' }:=I.turnedL (ch:=[it]) (t':=s.toks) (fun b o hb e=>(hs'.2 b (by simpa using hb)).trans e) hf
   obtain⟨jts,rj,tp,_⟩:=I'.tuple ((hSame i).seqT hsq)
   obtain⟨u1,u2,rfl,r1,r2⟩:∃u1 u2,jts=[u1,u2]/\RelV (.str kv.1) u1/\RelV kv.2 u2:=by
     cases rj with
     | cons a1 b1=>cases b1 with
       | cons a2 b2=>cases b2;exact⟨_,_,rfl,a1,a2⟩
   obtain⟨⟨c3,d3,dt3,sl3⟩,ho3,hc3,n3,hd3⟩:=id tp
   dsimp only at hc3 hd3
   subst hc3 hd3
   dsimp only
   refine Aa (AZ ?_)
   refine Aa (Ds ?_)
   unfold Builtin.Dict.pairItems
   refine Aa (Dr (T := "tuple") ⟨_,ho3,rfl⟩ ?_)
   rw[if_pos (by decide)]
   refine Aa (BA ho3 rfl (Ae ?_))
   refine AZ ?_
   obtain⟨z,hd,vs,rel,dd⟩:=uw I'.hok (show (Hd H p kvs i) p=some (.dK ((kvs.take i).map kk)) from aa)
   have hvz:vs.length<=sizeLine:=by rw[<- rel.length];exact z
   refine wpAny_dictSet_pairs (s:={ s with heap:=h' }) (hsz:=hvz) (j0 (k:=Sum.inr kv.1) r1) dd fun h2 dd2 hs2=>?_
   have hmu:Mut ((Hd H p kvs i) p):=by rw[show (Hd H p kvs i) p=some (.dK ((kvs.take i).map kk)) from aa];exact True.intro
   have he:∃q,h2.get? p=some q:=let ⟨q,_,_,hq,_⟩:=dd2;⟨q,hq⟩
   have hpl:(putK ((kvs.take i).map kk) (Sum.inr kv.1) kv.2).length<=sizeLine:=by
     have:=je ((kvs.take i).map kk) (Sum.inr kv.1) kv.2
     rw[Ac,AS] at this
     exact BV (fk (by omega))
   have I2:Inv X pins σ (Hd H p kvs (i+1)) { s with heap:=h2,toks:=s.toks+1 }:=by
     have:=nj (t':=s.toks+1) (ob:=.dK (putK ((kvs.take i).map kk) (Sum.inr kv.1) kv.2)) I' hmu hs2 he (qx hpl hd (rel.put (Sum.inr kv.1) r2) dd2)
     rw[a9e hn hkv] at this
     have e:upd (Hd H p kvs i) p (.dK ((kvs.take (i+1)).map kk))=Hd H p kvs (i+1):=by
       funext b;unfold Hd
       by_cases c:b=p
       . rw[c,aa,aa]
       . rw[ah c,ah c,ah c]
     rw[e] at this;exact this
   refine Ae ⟨Cd Ka.plain_loop _,ih (i+1) _ (by omega) hlt I2 ?_ (fun b hb=>?_) q⟩
   . obtain⟨o,g1,g2⟩:=hit'
     exact⟨o,(hs2.2 it hip).trans g1,g2⟩
   . have hb':b=it:=by simpa using hb
     subst hb'
     have f0:=hf b hb
     refine⟨?_,f0.2⟩
     have:=f0.1
     unfold Hd at this |-
     rw[ah hip] at this |-
     exact this
noncomputable def a9p (K:Ab):List V->Hp->VK->Prop:=fun xs H Q=>∃(a:Addr) (ts:List Addr) (kvs:List (Str×V)),xs=[V.ref a]/\SqL K H a (ts.map V.ref)/\Paired (fun t (kv:Str×V)=>SqT K H t [.str kv.1,kv.2]) ts kvs/\(kvs.map (·.1)).Nodup/\ts.length<=1000/\∀p,H p=none->Q (.ref p) (upd H p (.dK (kvs.map kk)))
theorem rl {K:Ab}(hK:X.K=K) (hc:X.calm=true):cy X (.type "dict") (a9p K):=by
 subst hK
 intro pins s σ H xs us Q I r h
 obtain⟨a,ts,kvs,rfl,hl,hts,hn,hz,q⟩:=h
 obtain⟨u,rfl,ru⟩:=jy r
 cases ru
 have hlen:=AD hts
 refine callType_codes (Q₁:=fun obj s₁=>obj=.ref s.heap.objs.size/\s₁={ s with heap:=s.heap.push { cls:=.type "dict",data:=.dict #[] } }) F.kt_called_dict (F.kt_typeCall_dict_1 _) F.entry_dict_init (kt_code_dict_new _ ⟨rfl,rfl⟩) ?_
 rintro obj s₁ ⟨rfl,rfl⟩
 have fr:H s.heap.objs.size=none:=I.hok.fresh (Ah _)
 have I1:Inv X pins σ (upd H s.heap.objs.size (.dK [])) { s with heap:=s.heap.push { cls:=.type "dict",data:=.dict #[] } }:=I.laid (t':=s.toks) (fun b o e=>Ad _ e) (Ah _) (xu _ I.big)
 have hnew:(s.heap.push { cls:=.type "dict",data:=.dict #[] }).get? s.heap.objs.size=some { cls:=.type "dict",data:=.dict #[] }:=An _ rfl
 refine⟨⟨_,hnew,rfl⟩,F.args_dict_init_2 _ _,?_⟩
 unfold Builtin.«dict.__init__»
 refine Aa ?_
 unfold Builtin.Dict.selfAndRest
 refine Aa (G0 ⟨_,hnew,rfl⟩ ?_)
 show wpAny _ _ (pure (s.heap.objs.size,[Value.ref a])) _ _ _
 refine Ae ?_
 show wpAny _ _ (FM "dict.__init__" s.heap.objs.size (.ref a) [] .none) _ _ _
 obtain⟨its,rv,⟨⟨oc,od,odt,osl⟩,n,e1,e2,e3,e4⟩,_⟩:=I1.list (qf (ad fr _) hl)
 dsimp only at e2 e3 e4
 subst e2 e3 e4
 unfold FM
 refine Aa (Dr (T := "list") ⟨_,e1,rfl⟩ ?_)
 rw[if_pos (by decide)]
 refine Aa (Ka.attr (A:=X.A.in1.in1) (show X.A.in1.in1.handled=none from I1.ok.hd hc) e1 fun h2 t2 k2 z2=>?_)
 rw[if_pos (show (none:Option Value).isNone=true from rfl)]
 refine Aa (CH ?_)
 have e1':=k2 _ _ e1
 have I2:Inv X pins σ (upd H s.heap.objs.size (.dK [])) { s with heap:=h2,toks:=t2 }:=I1.kept (t':=t2) fun b o e=>k2 b o e
 refine Aa (CQ (s:={ s with heap:=h2,toks:=t2 }) (items:=its.toArray) ⟨_,e1',rfl,_,rfl⟩ ?_)
 have hge:s.heap.objs.size<h2.objs.size:=Ap (k2 _ _ hnew)
 have I3:Inv X pins σ (upd H s.heap.objs.size (.dK [])) { s with heap:=h2.push { cls:=.type "list_iterator",data:=.fields #[.ref a,.int 0 0] },toks:=t2 }:=I2.kept (t':=t2) fun b o e=>Ad _ e
 have hit:(h2.push { cls:=.type "list_iterator",data:=.fields #[.ref a,.int 0 0] }).IsListIter h2.objs.size a 0:=⟨_,An _ rfl,rfl,rfl⟩
 refine Ae ⟨Cd Ka.plain_loop _,a2w (kvs:=kvs) (show X.A.in1.handled=none from I1.ok.hd hc) fr hl hts hn hz (Ck hge) kvs.length 0 _ rfl (AG _) I3 hit (fun b hb=>?_) fun s' I'=>?_⟩
 . have hb':b=h2.objs.size:=by simpa using hb
   subst hb'
   exact I2.fpOk (Ah _) (by show (upd H s.heap.objs.size (.dK [])) h2.objs.size=none;rw[ah (Ck hge)];exact I2.hok.fresh (Ah _) |> fun z=>by rw[ah (Ck hge)] at z;exact z)
 . refine⟨rfl,.ref s.heap.objs.size,_,I',rfl,?_⟩
   have:=q s.heap.objs.size fr
   unfold Hd
   rw[BD]
   exact this
end
end L2
namespace TS
open PySem PySem.W PyProof.Rows
section
variable {α β:Type}{N:Nat}{lt:Nat->Nat->Bool}{p:Array Nat}
structure Ord (N:Nat) (lt:Nat->Nat->Bool):Prop where
 tr:∀i j k,lt i j=true->lt j k=true->lt i k=true
 tot:∀i j,i<N->j<N->i≠j->lt i j=false->lt j i=true
end
section
open L2 HT
variable {prog:Program}{w:World}{A:Around}{E:Value->Shared->Prop}{s:Shared}
end
end TS
namespace L2
open PySem PySem.Spec PyProof.Rows TS
section
variable {X:Cx}
end
theorem a0k {J:It}{H1:Hp}{σ:St}{ix:List Nat}{tc:TT}{te:TE}{Q:VK}{I0:Hp->Prop}(ws:List Str) (p:Str->Bool) (hJ:JSeq J I0 (ws.map V.str)) (h0:I0 H1) (hz:ws.length<=1000)
   (hc:∀n∈ws,∀H2,Same H1 H2->∀Q':Bool->Hp->Prop,(∀H3,Same H2 H3->Q' (p n) H3)->tc (some (.str n)::bz σ ix) H2 Q')
   (he:∀(n:Str) H2 (Q':VK),Q' (.str n) H2->te (some (.str n)::bz σ ix) H2 Q')
   (hQ:∀D H',H1 D=none->Same H1 H'->H' D=some (.lst ((ws.filter p).map V.str))->Q (.ref D) H'):lu J H1 σ ix tc te Q:=by
 have pv:∀n:Str,(fun v:V=>match v with|.str i=>p i|_=>false) (V.str n)=p n:=fun n=>rfl
 refine ph (ws.map V.str) (fun v=>match v with|.str i=>p i|_=>false) id hJ h0 (by rw[Ac];exact Ax hz (by decide)) ?_ ?_ ?_
 . intro x hx H2 e2 Q' q'
   obtain⟨n,hn,rfl⟩:=AF.mp hx
   exact hc n hn H2 e2 Q' fun H3 e3=>q' H3 e3
 . intro x hx _ H2 e2 Q' q'
   obtain⟨n,hn,rfl⟩:=AF.mp hx
   exact he n H2 Q' (q' H2 (Same.refl _))
 . intro D H' hD e hd
   refine hQ D H' hD e ?_
   rw[hd,Dx,Iw]
   rfl
theorem ak {a b:TS}{D:Ends}{σ:St}{H:Hp}(h:∀D':Ends,(∀σ H,b D σ H->D'.nx σ H)->(∀v H,D.rt v H->D'.rt v H)->(∀σ H,D.ct σ H->D'.ct σ H)->a D' σ H):tSeq a b D σ H:=h { D with nx:=b D } (fun _ _ z=>z) (fun _ _ z=>z) (fun _ _ z=>z)
open PySem.SeqAt
open AutoSeq1 (wpAny_loadPart')
open MeetsSeq MeetsSeq2 MeetsSeq3
section
variable {prog:Program}{w:World}
end
section
variable {X:Cx}
end
section
variable {X:Cx}
noncomputable def aaw (_ j:Int):Prop:=0<j/\j<=10 ^ 60
theorem a5x:OpR X (binaryOp .FloorDiv) (rI aaw fun i j=>.int (i / j)):=opI fun i j _ _ _ _ _ hc q=>by
 have h1:(0:Int)<j:=hc.1
 have h2:j<=10 ^ 60:=hc.2
 refine floordiv_int (by omega) (by rw[Fb i (by omega)];exact q) (.inl (PyProof.noPylong_of_log2 ?_))
 have h3:j.natAbs<2 ^ 200:=by
   have:(10:Int) ^ 60<2 ^ 200:=by decide +kernel
   omega
 have h4:j.natAbs.log2<200:=(Nat.log2_lt (by omega)).mpr h3
 omega
set_option autoImplicit true
set_option relaxedAutoImplicit true
theorem a5v (ho:QE X o td) (he:QE X e ty) (m:M1 X o "pop" apos e cpos:=by exact⟨rfl,rfl,rfl,rfl⟩):QE X (.Call (.Attribute o "pop" apos) [e] [] cpos) (a3k td ty):=⟨a6a ho.run he.run m⟩
end
section
variable {X:Cx}{pins:List (Addr×Obj)}{σ:St}{H:Hp}{s:Shared}{a b:Addr}{A:Around}{E:Value->Shared->Prop}
end
section
variable {X:Cx}{o e f:Expr}{apos cpos:Pos}{td ty tx:TE}
end
end L2
namespace Mir
open PySem L2
noncomputable def letters:Str := "abcdefghijklmnopqrstuvwxyz"
noncomputable def figures:Str := "0123456789"
noncomputable def noNames:List Str:=["nil","any","is","not","cell","stretch","tree","nothing","then","with"]
noncomputable def dk (c:Nat):Bool:=decide (c∈letters.cps.toList) || decide (c∈figures.cps.toList)
noncomputable def iu:List Nat->Bool
 | []=>false
 | c::_=>decide (c∈letters.cps.toList)
noncomputable def bx (x:Str):Bool:=if x = "" \/ 8<x.length\/x∈noNames then false else iu x.cps.toList && x.cps.toList.all dk
theorem zx (a b:Str):eqV (.str a) (.str b)=decide (a=b):=by
 show (a == b)=decide (a=b)
 by_cases h:a=b
 . subst h;simp
 . rw[decide_eq_false h];exact beq_eq_false_iff_ne.mpr h
theorem gl (x:Str) (l:List Str):inV (.str x) (l.map V.str)=decide (x∈l):=by
 unfold inV
 rw[BY,Fz,decide_eq_true_eq]
 constructor
 . rintro⟨y,hy,e⟩
   obtain⟨z,hz,rfl⟩:=AF.mp hy
   rw[zx,decide_eq_true_eq] at e
   exact e ▸ hz
 . intro h
   exact⟨.str x,AF.mpr ⟨x,h,rfl⟩,by rw[zx];simp⟩
theorem gn (l:List Str):(l.map V.str).all ik=true:=by
 rw[Dc]
 intro v hv
 obtain⟨z,_,rfl⟩:=AF.mp hv
 rfl
end Mir
namespace K51
open PySem PySem.Spec L2 Mir
variable {P:Program}{w:World}{K:Ab}{mg:Str->Option Value}{base:Heap}{f g gS gN gA gW gI gL gF gO gT gB C fI CM CF fJ gD gR gU gH gM gE gC gK gP gX:Addr}{fd gd dS dN dA dW dI dL dF dO dT dB dD dR dU dH dM dE dC dK dP dX:FuncData}
noncomputable def top (i:Nat):Stmt:=PySem.Challenge.pw_apart_k51_ifs_and_whiles.main.body.getD i (.Pass ⟨0,0,0,0⟩)
noncomputable def forms:List (Str×List Str):=[("set",["name","value"]),("read",["name","name","field"]),("write",["name","field","value"]),("new",["name","value","value"]),("free",["name"])]
structure Con (K:Ab) (mg:Str->Option Value) (w:World):Prop where
 len:mg "len" = none
 all:mg "all" = none
 any:mg "any" = none
 isi:mg "isinstance" = none
 list:mg "list" = none
 int:mg "int" = none
 bool:mg "bool" = none
 str:mg "str" = none
 dict:mg "dict" = none
 sorted:mg "sorted" = none
 set:mg "set" = none
 sum:mg "sum" = none
 range:mg "range" = none
 tuple:mg "tuple" = none
 max:mg "max" = none
 zip:mg "zip" = none
 min:mg "min" = none
 enumerate:mg "enumerate" = none
 letters:Glob mg "LETTERS" (.str Mir.letters)
 figures:Glob mg "FIGURES" (.str Mir.figures)
 noNames:∃a,Glob mg "NO_NAMES" (.ref a)/\∀H,SqT K H a (Mir.noNames.map V.str)
 mostSigns:Glob mg "MOST_SIGNS" (.int 8)
 forms:∃(a:Addr) (ts:List (Str×Addr)),Glob mg "PLAIN_FORMS" (.ref a)/\uu K w a (ts.map fun x=>(x.1,V.ref x.2))/\ts.map (·.1)=forms.map (·.1)/\∀w t r,(w,t)∈ts->(w,r)∈forms->∀H,SqT K H t (r.map V.str)
 fields:∃a,Glob mg "FIELDS" (.ref a)/\(∀H,SqT K H a (([("first" : Str),"second"]:List Str).map V.str))/\∃o,K.lookup a=some o/\o.cls=.type "tuple" /\ o.dict=none
 places:∃a,Glob mg "CELL_PLACES" (.ref a)/\uu K w a [("read",.int 2),("write",.int 1),("free",.int 1)]
theorem iteB {b:Bool}{A B:Prop}(h1:b=true->A) (h2:b=false->B):if b=true then A else B:=by
 cases b with
 | true=>rw[if_pos rfl];exact h1 rfl
 | false=>rw[if_neg Af];exact h2 rfl
noncomputable def Short (x:Str):Prop:=x.length<=1000
theorem Short.line {x:Str}(h:Short x):x.length<=sizeLine:=BV (fk h)
noncomputable def spB1 (f:Str->Bool):Sp:=fun vs H Q _=>∃x,vs=[.str x]/\Short x/\∀H',Same H H'->Q (.bl (f x)) H'
theorem oi {r:List Str}{k:Nat}:cutV (r.map V.str) (some (k:Int)) none=(r.drop k).map V.str:=by
 unfold cutV
 rw[HT.sIx_nat,HT.sIx_none,Ac]
 rw[List.map_drop.symm]
 by_cases h:k<=r.length
 . rw[DE h,Bj (by simp)]
 . rw[FG (by omega),Nat.sub_self,DT,Gj (by omega)];rfl
noncomputable def j5 (rs:List (List Str)):Prop:=rs.length<=200/\∀r∈rs,r.length<=5/\∀x∈r,Short x
theorem Paired.nth {α β:Type}{F:α->β->Prop}:∀{l₁:List α}{l₂:List β}{i:Nat}{a:α},Paired F l₁ l₂->l₁[i]? = some a->∃b,l₂[i]? = some b/\F a b
 | _,_,_,_,.nil,e=>by simp at e
 | _,_,0,_,.cons h _,e=>by simp at e;subst e;exact⟨_,rfl,h⟩
 | _,_,i+1,_,.cons _ t,e=>by
   obtain⟨b,e1,e2⟩:=Paired.nth (i:=i) t (by simpa using e)
   exact⟨b,by simpa using e1,e2⟩
theorem gty {X:Cx}{x:Str}{n:String}{pos:Pos}(hm:X.mg x=none) (hv:bootBuiltins x=some (.type n)) (hg:Gl X x:=by rfl) (hn:x ≠ "__name__" := by decide) (hdb:(x == ("__debug__" : Str))=false:=by decide):PE X (.Name x pos) (tC (.ty n)):=a7z hg hm hv rfl hn hdb
structure Cal (K:Ab) (mg:Str->Option Value) (x:Str) (f:Addr) (fd:FuncData) (ps:List Str):Prop where
 name:mg x=some (.ref f)
 keep:Cq K (.ref f)=true
 bind:Binds K fd ps []
theorem Paired.at2 {α β:Type}{F:α->β->Prop}{l₁:List α}{l₂:List β}{i:Nat}{a:α}{b:β}(h:Paired F l₁ l₂) (h1:l₁[i]? = some a) (h2:l₂[i]? = some b):F a b:=by
 obtain⟨b',e1,e2⟩:=Paired.nth h h1
 rw[h2] at e1
 cases e1
 exact e2
noncomputable def fc (r:List Str):List Str:=(r.drop 1).filter fun x => !decide (x∈Mir.noNames)
noncomputable def words (rs:List (List Str)):List Str:=(rs.map fc).flatten
theorem a1z (a b:List (List Str)):words (a++b)=words a++words b:=by unfold words;rw[AB,List.flatten_append]
theorem a0a (a:List (List Str)) (r:List Str):words (a++[r])=words a++fc r:=by rw[a1z];unfold words;simp
theorem jc:∀{rs:List (List Str)}{m:Nat},(∀r∈rs,r.length<=m)->(words rs).length<=rs.length*m
 | [],m,_=>by simp[words]
 | r::rs,m,h=>by
   have h1:=jc (rs:=rs) (m:=m) (fun x hx=>h x (Ao _ hx))
   have h2:(fc r).length<=m:=by
     unfold fc
     have:=Bx (fun x => !decide (x∈Mir.noNames)) (r.drop 1)
     have:=h r (Aj ..)
     have e:=Ba (i:=1) (l:=r)
     omega
   have e:words (r::rs)=fc r++words rs:=by simp[words]
   rw[e,Ag,A0,Nat.succ_mul]
   omega
theorem Paired.app {α β:Type}{F:α->β->Prop}:∀{l₁:List α}{l₂:List β}{m₁:List α}{m₂:List β},Paired F l₁ l₂->Paired F m₁ m₂->Paired F (l₁++m₁) (l₂++m₂)
 | _,_,_,_,.nil,h=>h
 | _,_,_,_,.cons h t,h2=>.cons h (Paired.app t h2)
noncomputable def t9 (K:Ab):Sp:=fun vs H Q _=>∃a fs ps,vs=[.ref a]/\a9f K H a [fs,ps]/\j5 fs/\j5 ps/\(∀r∈fs++ps,r≠[])/\(∀ss:List Str,ss.Nodup->(∀y∈ss,y∈words (fs++ps))->ss.length<64)/\
 ∀(p:Addr) (zs:List Str) (H':Hp),H p=none->Same H H'->H' p=some (.lst (zs.map V.str))->zs.Nodup->(∀y,y∈zs↔y∈words (fs++ps))->E8 zs=true->Q (.ref p) H'
noncomputable abbrev tz:Stmt:=top 6
noncomputable abbrev pw:Stmt:=top 7
theorem a51:FnScope ["text"] ["text"] (au tz):=⟨rfl,rfl,rfl,by decide +kernel,rfl,by decide +kernel,by decide +kernel⟩
theorem a3d (C:Con K mg w) (F:Fun K "is_name" "is_name" tz f fd):FnOk P w K mg base CX0 1 f fd ["text"] (spB1 bx):=by
 refine F.ok a51 (fun vs H Q E h=>?_) (fun cdv A outer s H vs Q E hr h=>?_)
 . obtain⟨x,rfl,_⟩:=h;rfl
 obtain⟨x,rfl,hx,q⟩:=h
 obtain⟨aN,gN,tN⟩:=C.noNames
 refine⟨_,kj (a6x (PW.pt (a0f (js bb (pv 0) wz (av _)) (a0f (js mx (kh m9 rfl C.len AM (cu (pv 0) ij)) (pe_g C.mostSigns) (av _))
     (a4s (js jb (pv 0) (pe_g gN) (by with_unfolding_all rfl)))))) (ji (rn a0q)) zu)
   (ji (rn (a4u (mj kf (uy gr (pv 0) jl (fun _ _=>rfl)) (pe_g C.letters) (by with_unfolding_all rfl))
     (vt (kh (a65 rfl) rfl C.all PyProof.Rows.boot_all (cu (pi (a9h (pv 0)) (fun _ _ _ _=>ze)
       (fun _ _ _ _=>aax (mj kf (pv 0) (pe_g C.letters) (by with_unfolding_all rfl)) (vt (mj kf (pv 0) (pe_g C.figures) (by with_unfolding_all rfl))))) ij)))))),?_⟩
 have hf:(x = "" \/ 8<x.length\/x∈Mir.noNames)->Q (.bl false) H:=fun h=>by
   have e:bx x=false:=by unfold bx;rw[if_pos h]
   rw[<- e];exact q H (Same.refl H)
 refine⟨_,rfl,rfl,_,rfl,iteB (fun c=>hf (.inl (by simpa using c))) fun c=>?_⟩
 refine⟨_,rfl,x,rfl,hx.line,_,_,rfl,rfl,_,rfl,iteB (fun c2=>hf (.inr (.inl (by have:=of_decide_eq_true c2;omega)))) fun c2=>?_⟩
 refine⟨_,rfl,aN,_,rfl,.inr (tN _),rfl,gn _,_,rfl,iteB (fun c3=>hf (.inr (.inr (by
   have c3':inV (.str x) (Mir.noNames.map V.str)=true:=c3
   rw[gl] at c3';exact of_decide_eq_true c3')))) fun c3=>?_⟩
 have c1':¬ x = "" := by simpa using c
 have c2':¬ 8<x.length:=by have:=of_decide_eq_false c2;omega
 have c3':¬ x∈Mir.noNames:=by
   have c3':inV (.str x) (Mir.noNames.map V.str)=false:=c3
   rw[gl] at c3';exact of_decide_eq_false c3'
 have e:bx x=(iu x.cps.toList && x.cps.toList.all dk):=by unfold bx;rw[if_neg (fun h=>h.elim c1' (fun h=>h.elim c2' c3'))]
 rw[e] at q
 cases hl:x.cps.toList with
 | nil =>
   exfalso
   apply c1'
   obtain⟨a⟩:=x
   have:a = #[]:=by simpa using hl
   rw[this];rfl
 | cons c0 r =>
   refine⟨_,rfl,x,0,c0,rfl,rfl,hx.line,(c8 (j:=0) (by rw[hl];rfl)),c0,_,rfl,rfl,_,rfl,?_⟩
   have eh:iu x.cps.toList=decide (c0∈Mir.letters.cps.toList):=by rw[hl];rfl
   refine iteB (fun ch=>?_) (fun ch=>?_)
   . rw[eh,ch,Bool.true_and] at q
     refine⟨_,rfl,x,rfl,?_⟩
     refine ph (jx x) (fun _=>true) (fun v=>match v with|.str z=>.bl (dk (z.cps.toList.headD 0))|_=>.bl false) a5z trivial ?_ ?_ ?_ ?_
     . unfold jx;rw[Ac,AU];exact hx.line
     . intro v hv H2 e2 Q' q'
       exact q' H2 (Same.refl _)
     . intro v hv _ H2 e2 Q' q'
       obtain⟨cc,hcc,rfl⟩:=AF.mp hv
       have q'':=q' H2 (Same.refl _)
       refine⟨_,rfl,cc,_,rfl,rfl,_,rfl,iteB (fun z=>?_) (fun z=>?_)⟩
       . have:dk cc=true:=by unfold dk;rw[show decide (cc∈Mir.letters.cps.toList)=true from z];rfl
         have q3:Q' (.bl (dk cc)) H2:=q''
         rw[this] at q3;exact q3
       . refine⟨_,rfl,cc,_,rfl,rfl,?_⟩
         have:dk cc=decide (cc∈Mir.figures.cps.toList):=by unfold dk;rw[show decide (cc∈Mir.letters.cps.toList)=false from z];rfl
         have q3:Q' (.bl (dk cc)) H2:=q''
         rw[this] at q3;exact q3
     . intro D H' hD e' hd
       refine⟨D,x.cps.toList.map dk,rfl,SqL.of ?_,?_⟩
       . rw[hd]
         congr 1
         congr 1
         unfold jx
         rw[List.filter_eq_self.mpr (fun _ _=>rfl),Cv,Cv]
         rfl
       . have e3:(x.cps.toList.map dk).all id=x.cps.toList.all dk:=by rw[List.all_map];rfl
         rw[e3]
         exact q H' e'
   . rw[eh,ch] at q
     exact q H (Same.refl _)
theorem scNamesOf:FnScope ["telling","names","row"] ["telling"] (au pw):=⟨rfl,rfl,rfl,by decide +kernel,rfl,by decide +kernel,by decide +kernel⟩
theorem a1d (C:Con K mg w) (F:Fun K "names_of" "names_of" pw f fd):FnOk P w K mg base CX0 1 f fd ["telling"] (t9 K):=by
 refine F.ok scNamesOf (fun vs H Q E h=>?_) (fun cdv A outer s H vs Q E hr h=>?_)
 . obtain⟨a,fs,ps,rfl,_⟩:=h;rfl
 obtain⟨a,fs,ps,rfl,ht,hf,hp,hne,h64,q⟩:=h
 obtain⟨aN,gN,tN⟩:=C.noNames
 obtain⟨as,t1,t2⟩:=ht
 cases t2 with
 | @cons fa _ _ _ t3 t4 =>
 cases t4 with
 | @cons pa _ _ _ t5 t6 =>
 cases t6
 obtain⟨fas,f1,f2⟩:=t3
 obtain⟨pas,p1,p2⟩:=t5
 refine⟨_,kj (a4r scNamesOf.nd (i:=1) rfl (Or.inl rfl) (yd ij))
   (kj (a1w AH rfl (zg (a79 ir (uy ay (pv 0) jl (fun _ _=>rfl)) (uy ay (pv 0) jl (fun _ _=>rfl)))) (mo (i:=2) scNamesOf.nd rfl (Or.inl rfl))
     (ji (zh (a77 AR DO DP mi (pv 1)
       (cu (pi (a2x (wq r9 (pv 2) (a02 jl) zf)) (fun _ _ _ _=>yr (js (show OpR _ _ (rIn K true) from lc) (pv 0) (pe_g gN) (by with_unfolding_all rfl))) (fun _ _ _ _=>pv 0)) ij)))))
     (ji (rn (kh (j6 rfl) rfl C.sorted FH (cu (ul (vq rfl) rfl C.set GJ (cu (pv 1) ij)) ij))))),?_⟩
 refine⟨AG _,fun n hn=>?_⟩
 have s1:Same H (upd H n (.lst [])):=ad hn _
 have fl:fas.length=fs.length:=AD f2
 have pl:pas.length=ps.length:=AD p2
 have b1:=hf.1
 have b2:=hp.1
 refine⟨_,rfl,a,_,0,.ref fa,rfl,rfl,s1.seqT t1,rfl,_,rfl,a,_,1,.ref pa,rfl,rfl,s1.seqT t1,rfl,?_⟩
 refine⟨fa,pa,_,_,rfl,rfl,s1 _ _ f1,s1 _ _ p1,?_,fun c hc=>?_⟩
 . rw[Ac,Ac];exact BV (fk (by omega))
 have hcn:c≠n:=fun e=>by rw[e,aa] at hc;cases hc
 rw[<- AB]
 have s2:=ad hc (.lst ((fas++pas).map V.ref))
 refine⟨c,rfl,⟨_,SqL.of aa⟩,?_⟩
 have pr:Paired (fun b r=>RowAt K H b r) (fas++pas) (fs++ps):=Paired.app f2 p2
 have pl2:(fas++pas).length=(fs++ps).length:=AD pr
 have hall:∀r∈fs++ps,r.length<=5:=fun r hr=>by
   rcases As.mp hr with h|h
   . exact (hf.2 r h).1
   . exact (hp.2 r h).1
 refine i8 (xs:=(fas++pas).map V.ref) (fun i σ H'=>Same H H'/\H' c=some (.lst ((fas++pas).map V.ref))/\H' n=some (.lst ((words ((fs++ps).take i)).map V.str))/\∃z,σ=[some (.ref a),some (.ref n),z]) ⟨s1.trans s2,aa,?_,_,rfl⟩ (fun i σ H' _ p=>SqL.of p.2.1) ?_ ?_
 . rw[ah (AO hcn),aa];rfl
 . rintro i v σ H' hi ⟨e,hc',hn',z,rfl⟩
   rw[Ak] at hi
   cases hb:(fas++pas)[i]? with
   | none=>rw[hb] at hi;cases hi
   | some b =>
     rw[hb] at hi
     have hv:v=.ref b:=(Av hi).symm
     subst hv
     obtain⟨r,hr1,hr2⟩:=Paired.nth pr hb
     have hrm:r∈fs++ps:=AQ hr1
     have hrow:RowAt K H' b r:=hr2.same e
     have hr5:=hall r hrm
     have hr0:r.length≠0:=fun h=>hne r hrm (List.length_eq_zero_iff.mp h)
     refine⟨_,rfl,.inl ⟨rfl,_,SqL.of hn'⟩,_,rfl,_,rfl,b,_,rfl,hrow,?_,fun t hT=>?_⟩
     . rw[Ac,show (some (1:Int))=some ((1:Nat):Int) from rfl,HT.sIx_nat];omega
     have e1:cutV (r.map V.str) (some 1) none=(r.drop 1).map V.str:=oi (k:=1)
     rw[e1]
     have s3:Same H' (upd H' t (.tup ((r.drop 1).map V.str))):=ad hT _
     refine⟨t,rfl,⟨_,SqT.of aa⟩,?_⟩
     refine ph ((r.drop 1).map V.str) (fun v => !inV v (Mir.noNames.map V.str)) id a6g (SqT.of aa) ?_ ?_ ?_ ?_
     . rw[Ac,Ba];exact BV (fk (by omega))
     . intro v hv H2 e2 Q' q'
       obtain⟨y,hy,rfl⟩:=AF.mp hv
       exact⟨_,rfl,aN,_,rfl,.inr (tN _),rfl,gn _,_,rfl,q' H2 (Same.refl _)⟩
     . intro v hv hpv H2 e2 Q' q'
       obtain⟨y,hy,rfl⟩:=AF.mp hv
       exact⟨_,rfl,q' H2 (Same.refl _)⟩
     . intro D H2 hD e' hd
       have hw:(((r.drop 1).map V.str).filter (fun v => !inV v (Mir.noNames.map V.str))).map id=(fc r).map V.str:=by
         rw[Dx,Iw]
         unfold fc
         congr 1
         apply List.filter_congr
         intro x _
         show (!inV (.str x) (Mir.noNames.map V.str))=_
         rw[gl]
       rw[hw] at hd
       have s4:Same H H2:=(e.trans s3).trans e'
       have ht1:(fs++ps).take (i+1)=(fs++ps).take i++[r]:=by rw[BX,hr1];rfl
       have wl:=jc hall
       have wl2:(words ((fs++ps).take i)).length<=200*5+200*5:=by
         have h1:=jc (rs:=(fs++ps).take i) (m:=5) (fun r hr=>hall r (BS hr))
         have h2:=List.length_take_le' i (fs++ps)
         rw[Ag] at h2
         omega
       have wl3:(fc r).length<=5:=by
         unfold fc
         have h1:=Bx (fun x => !decide (x∈Mir.noNames)) (r.drop 1)
         have h2:=Ba (i:=1) (l:=r)
         omega
       refine⟨n,D,_,_,rfl,rfl,e' _ _ (s3 _ _ hn'),hd,?_,?_⟩
       . rw[Ac,Ac]
         exact Ax (by omega) (show (2005:Nat)<=sizeLine by decide)
       refine⟨fun b' u q'=>?_,?_,?_,_,rfl⟩
       . rw[ah (ao q' hn)];exact s4 _ _ q'
       . rw[ah hcn];exact e' _ _ (s3 _ _ hc')
       . rw[aa,ht1,a0a,AB]
 . rintro σ H' ⟨e,hc',hn',z,rfl⟩
   rw[Ac,pl2,BD] at hn'
   refine⟨_,rfl,n,_,rfl,SqL.of hn',?_,fun S ss hS hd=>?_⟩
   . have wl:=jc hall
     rw[Ag] at wl
     show _<4096
     omega
   have s5:=ad hS (SetO P w S ss)
   refine⟨S,ss,rfl,aa,h64 ss hd.nodup (fun y hy=>(hd.mem y).mp hy),fun p zs hp' hzs hso=>?_⟩
   have s6:=ad hp' (.lst (zs.map V.str))
   refine q p zs _ ?_ (e.trans (s5.trans s6)) aa (hzs.nodup_iff.mpr hd.nodup) (fun y=>(hzs.mem_iff).trans (hd.mem y)) hso
   cases hH:H p with
   | none=>rfl
   | some u=>exact nomatch (s5 _ _ (e _ _ hH)).symm.trans hp'
section
variable {K:Ab}
end
noncomputable def fb (ns:List Int) (k:Nat):Int:=(ns[k]?).getD 0
noncomputable def a4f (K:Ab):Sp:=fun vs H Q _=>∃(a:Addr) (ns:List Int) (k:Nat),vs=[.ref a,.int (k:Int)]/\SqL K H a (ns.map V.int)/\Q (.int (fb ns k)) H
theorem lg {α:Type}{xs:List α}{m:Int}{i:Int}(hl:(xs.length:Int)=m) (hm:0<m):∃v,atI xs (i % m)=some v/\v∈xs:=by
 have h0:=Ca i (HG hm)
 have h1:=BQ i hm
 generalize i % m=j at h0 h1
 obtain⟨k,rfl⟩:=Int.eq_ofNat_of_zero_le h0
 have hk:k<xs.length:=by omega
 exact⟨xs[k],c8 (Ai hk),De hk⟩
noncomputable abbrev a1k:Stmt:=top 32
theorem a9i:FnScope ["_law_script","_law_k"] ["_law_script","_law_k"] (au a1k):=⟨rfl,rfl,rfl,by decide +kernel,rfl,by decide +kernel,by decide +kernel⟩
theorem a4j (C:Con K mg w) (F:Fun K "_law_cell_at" "_law_cell_at" a1k f fd):FnOk P w K mg base CX0 1 f fd ["_law_script","_law_k"] (a4f K):=by
 refine F.okQ a9i (fun vs H Q E h=>?_) (fun cdv A outer s H vs Q E hr h=>?_)
 . obtain⟨a,ns,k,rfl,_⟩:=h;rfl
 obtain⟨a,ns,k,rfl,hS,q⟩:=h
 refine⟨_,ae (bg (aw ku (qv 1) (bf du rfl C.len AM (aj (qv 0) a0)) (av _)) (ai (b5 (af ef (qv 0) (qv 1) (fun _ _=>rfl)))) bq)
   (ai (b5 ab)),?_⟩
 have hl:(ns.map V.int).length=ns.length:=Ac _
 refine⟨_,rfl,_,rfl,a,_,rfl,.inl hS,_,_,rfl,rfl,_,rfl,iteB (fun c=>?_) (fun c=>?_)⟩
 . have c':=of_decide_eq_true c
   rw[hl] at c'
   have hk:k<ns.length:=by omega
   have e:fb ns k=ns[k]:=by unfold fb;rw[Ai hk];rfl
   rw[e] at q
   exact⟨_,rfl,_,rfl,a,_,_,_,rfl,rfl,hS,c8 (by rw[Ak,Ai hk];rfl),q⟩
 . have c':=of_decide_eq_false c
   rw[hl] at c'
   have hk:ns.length<=k:=by omega
   have e:fb ns k=0:=by unfold fb;rw[BK hk];rfl
   rw[e] at q
   exact q
noncomputable def v7 (K:Ab):Sp:=fun vs H Q _=>∃(a:Addr) (ns:List Int),vs=[.ref a]/\SqL K H a (ns.map V.int)/\∀H',Q (.bl true) H'
theorem a69 (xs:List Str) (n:Nat) (hn:n<=xs.length):cutV (xs.map V.str) none (some (n:Int))=(xs.take n).map V.str:=by
 unfold cutV
 rw[HT.sIx_nat,HT.sIx_none,Ac,DE hn,CW,DM,Hk]
theorem l9 {K:Ab}{H:Hp}{l b:Addr}{xs ys zs:List V}(hl:H l=some (.lst xs)) (h:SqT K H b zs):SqT K (upd H l (.lst ys)) b zs:=by
 rcases h with (h|⟨o,h⟩)|h
 . have hne:b≠l:=fun e=>by rw[e,hl] at h;cases h
   exact .inl (.inl (by show upd H l _ b=_;rw[ah hne];exact h))
 . have hne:b≠l:=fun e=>by rw[e,hl] at h;cases h
   exact .inl (.inr ⟨o,by show upd H l _ b=_;rw[ah hne];exact h⟩)
 . exact .inr h
theorem c7 {X:Cx}{a:Expr}{ta:TE}{pos:Pos}{op:UnaryOp}{r:V->Hp->VK->Prop}(ho:UnR X (unaryOp op) r) (ha:QE X a ta):QE X (.UnaryOp op a pos) (tUn r ta):=⟨aal ho ha.run⟩
theorem bh {α:Type}{xs:List α}{v:α}:atI (xs++[v]) (-1)=some v:=by
 unfold atI ixN
 have h1:¬ (0:Int) <= -1:=by decide
 have h2 : -(((xs++[v]).length:Nat):Int) <= -1:=by rw[Ag,AX];omega
 rw[if_neg h1,if_pos h2]
 have h3:((-1:Int)+(((xs++[v]).length:Nat):Int)).toNat=xs.length:=by rw[Ag,AX];omega
 rw[h3]
 simp
end K51
namespace L2
open PySem PySem.Spec PyProof.Rows
section
variable {prog:Program}{w:World}{A:Around}{E:Value->Shared->Prop}{u:Shared}
theorem a6z {j q:Addr}{k:Nat}{vals:Array Value}{v:Value}{R:Value->Shared->Prop}(a1:u.heap.IsTupleIter j q k) (a2:u.heap.IsTuple q vals) (a3:vals[k]? = some v)
   (hR:∀g,g.IsTupleIter j q (k+1)->Ct j u.heap g->R v { u with heap:=g }):wpAny (model prog w) A (BF (.ref j)) R E u:=by
 obtain⟨o,b1,b2,b3⟩:=id a1
 obtain⟨p,c1,c0,m,c2⟩:=a2
 have ty:=a1.typeIs
 unfold BF
 refine Aa (Bn ty CP (Bm CP ty EX ?_ (EN _)))
 show wpAny (model prog w) _ (field (.ref j) 0 >>= _) _ _ u
 refine Aa (BO b1 b3 (x:=.ref q) rfl ?_)
 have nn:¬ (Value.ref q == Value.none)=true:=Af
 show wpAny (model prog w) _ (if (Value.ref q == Value.none)=true then _ else _) _ _ u
 rw[if_neg nn]
 show wpAny (model prog w) _ (field (.ref j) 1 >>= _) _ _ u
 refine Aa (BO b1 b3 (x:=.int k 0) rfl ?_)
 show wpAny (model prog w) _ (seqItems? (.ref q) >>= _) _ _ u
 refine Aa (BA c1 c2 ?_)
 simp only[By,a3]
 have kept:∀f:Array Value->Array Value,(u.heap.update j (Ff f)).get? j=some (Ff f o):=fun f=>Bl _ b1 (Em (Di b3 _))
 refine Aa (EL b1 b3 (by simp) (Ae ⟨v,rfl,Ae (hR _ ⟨_,kept _,?_,?_⟩ (Cz ..))⟩))
 . rw[Fo];exact b2
 . rw[Di b3];simp[rawInt]
theorem a2z {j q:Addr}{k:Nat}{vals:Array Value}{R:Value->Shared->Prop}(hh:A.handled=none) (a1:u.heap.IsTupleIter j q k) (a2:u.heap.IsTuple q vals) (a3:vals[k]? = none)
   (hE:∀g e,Gh j u.heap g->(∃o,g.get? e=some o/\o.cls=.type "StopIteration")->E (.ref e) { u with heap:=g }):wpAny (model prog w) A (BF (.ref j)) R E u:=by
 obtain⟨o,b1,b2,b3⟩:=id a1
 obtain⟨p,c1,c0,m,c2⟩:=a2
 have ty:=a1.typeIs
 unfold BF
 refine Aa (Bn ty CP (Bm CP ty EX ?_ (EN _)))
 show wpAny (model prog w) _ (field (.ref j) 0 >>= _) _ _ u
 refine Aa (BO b1 b3 (x:=.ref q) rfl ?_)
 have nn:¬ (Value.ref q == Value.none)=true:=Af
 show wpAny (model prog w) _ (if (Value.ref q == Value.none)=true then _ else _) _ _ u
 rw[if_neg nn]
 show wpAny (model prog w) _ (field (.ref j) 1 >>= _) _ _ u
 refine Aa (BO b1 b3 (x:=.int k 0) rfl ?_)
 show wpAny (model prog w) _ (seqItems? (.ref q) >>= _) _ _ u
 refine Aa (BA c1 c2 ?_)
 simp only[By,a3]
 refine Aa (CH (Aa (EL b1 b3 (by simp) ?_)))
 show wpAny (model prog w) _ (newExc (.type "StopIteration") [] >>= _) _ _ _
 refine Aa ?_
 unfold newExc newTuple
 refine Aa (AL ?_ (by size_fits))
 refine Aa (m:=firstArgMember _ _) (ES (a:=Value.none) (by simp only[firstArgMember];rfl) (AL ?_ (by size_fits)))
 refine Hr ?_ ?_
 . exact hh
 . exact hE _ _ (((Cz ..).extBut.push _).push _) ⟨_,An _ rfl,rfl⟩
theorem a3t {z ti to j1 j2 q1 q2:Addr}{k1 k2:Nat}{xs ys:Array Value}{x y a b:Value}{R:Option Value->Shared->Prop}(D:ZipApart z ti to j1 j2 q1 q2) (g1:IsZip u.heap z ti to .none) (g2:IsPair u.heap ti (.ref j1) (.ref j2)) (g3:IsPair u.heap to a b)
   (t1:u.heap.IsTupleIter j1 q1 k1) (t2:u.heap.IsTupleIter j2 q2 k2) (v1:u.heap.IsTuple q1 xs) (v2:u.heap.IsTuple q2 ys) (hx:xs[k1]? = some x) (hy:ys[k2]? = some y)
   (hR:∀g,IsZip g z ti to (rawInt u.heap.objs.size)->IsPair g to x y->g.IsTupleIter j1 q1 (k1+1)->g.IsTupleIter j2 q2 (k2+1)->IsPair g u.heap.objs.size x y->
     (∀c o,c≠z->c≠to->c≠j1->c≠j2->u.heap.get? c=some o->g.get? c=some o)->R (some (.ref u.heap.objs.size)) { u with heap:=g }):wpAny (model prog w) A (pyNext (.ref z)) R E u:=by
 have ty:u.TypeIs (.ref z) "zip" := ⟨_,g1,rfl⟩
 unfold pyNext
 refine Aa (Eg (Bn ty E9 (Bm E9 ty Ih ?_ (HX _))))
 show wpAny (model prog w) _ (field (.ref z) 2 >>= _) _ _ u
 refine Aa (BO g1 rfl (x:=.bool false) rfl ?_)
 show wpAny (model prog w) _ (field (.ref z) 3 >>= _) _ _ u
 refine Aa (BO g1 rfl (x:=.ref ti) rfl (Aa (BA g2 rfl ?_)))
 show wpAny (model prog w) _ (Ce (.ref z) >>= _) _ _ u
 refine Aa ?_
 unfold Ce
 refine Aa (BO g1 rfl (x:=.none) rfl (Ae ?_))
 simp only[if_true]
 refine Aa (CH (Aa (BO g1 rfl (x:=.ref to) rfl (Aa (Bu g1 (by simp) fun m1 y1 d1=>?_)))))
 have z1:IsZip m1 z ti to .ellipsis:=y1
 refine Aa ?_
 simp only[Ii,Iy,Iz,IC]
 refine Aa (Aa (Hl ?_))
 show wpAny (model prog w) _ (BF (.ref j1) >>= _) _ _ _
 refine Aa (a6z (t1.extBut d1.extBut D.i1z) (v1.extBut d1.extBut D.l1z) hx fun m2 y2 d2=>Ae ?_)
 have o2:IsPair m2 to a b:=d2.extBut _ _ D.TOi1 (d1.extBut _ _ D.TOz g3)
 refine Aa (BA o2 rfl (Aa (Hf o2 fun m3 y3 d3=>Aa (Ee (Ae ?_)))))
 have o3:IsPair m3 to x b:=y3
 refine Aa (Aa (Hl ?_))
 show wpAny (model prog w) _ (BF (.ref j2) >>= _) _ _ _
 have w2:=((t2.extBut d1.extBut D.i2z).extBut d2.extBut D.i12.symm).extBut d3.extBut D.TOi2.symm
 have x2:=((v2.extBut d1.extBut D.l2z).extBut d2.extBut D.l2i1).extBut d3.extBut D.l2TO
 refine Aa (a6z w2 x2 hy fun m4 y4 d4=>Ae ?_)
 have o4:IsPair m4 to x b:=d4.extBut _ _ D.TOi2 o3
 refine Aa (BA o4 rfl (Aa (Hf o4 fun m5 y5 d5=>Aa (Ee (Ae (Ae ?_))))))
 have o5:IsPair m5 to x y:=y5
 refine Aa (BA o5 rfl (Aa (wpAny_newTuple ?_)))
 have sz:m5.objs.size=u.heap.objs.size:=by rw[d5.1,d4.1,d3.1,d2.1,d1.1]
 have z5:IsZip m5 z ti to .ellipsis:=d5.extBut _ _ D.TOz.symm (d4.extBut _ _ D.i2z.symm (d3.extBut _ _ D.TOz.symm (d2.extBut _ _ D.i1z.symm z1)))
 have kp:∀c o,c≠z->c≠to->c≠j1->c≠j2->u.heap.get? c=some o->m5.get? c=some o:=fun c o n1 n2 n3 n4 e=>d5.extBut _ _ n2 (d4.extBut _ _ n4 (d3.extBut _ _ n2 (d2.extBut _ _ n3 (d1.extBut _ _ n1 e))))
 have p1:m5.IsTupleIter j1 q1 (k1+1):=((y2.extBut d3.extBut D.TOi1.symm).extBut d4.extBut D.i12).extBut d5.extBut D.TOi1.symm
 have p2:m5.IsTupleIter j2 q2 (k2+1):=y4.extBut d5.extBut D.TOi2.symm
 show wpAny (model prog w) _ (DQ (.ref z) (.ref m5.objs.size) >>= _) _ _ _
 refine Aa ?_
 unfold DQ
 have z6:IsZip (m5.push { cls:=.type "tuple",data:=.seq #[x,y] }) z ti to .ellipsis:=Ad _ z5
 refine Aa (Bu z6 (by simp) fun m7 y7 d7=>?_)
 have z7:IsZip m7 z ti to (rawInt m5.objs.size):=y7
 refine Bu z7 (by simp) fun m8 y8 d8=>?_
 have z8:IsZip m8 z ti to (rawInt m5.objs.size):=y8
 have lift:∀c o,c≠z->m5.get? c=some o->m8.get? c=some o:=fun c o n1 e=>d8.extBut _ _ n1 (d7.extBut _ _ n1 (Ad _ e))
 have nz:m5.objs.size≠z:=Ck (Ap z5)
 have np:IsPair m8 m5.objs.size x y:=d8.extBut _ _ nz (d7.extBut _ _ nz (An _ rfl))
 rw[sz] at z8 np
 refine Ae ⟨_,rfl,Ae ?_⟩
 show R (some (.ref m5.objs.size)) _
 rw[sz]
 exact hR m8 z8 (lift _ _ D.TOz o5) (p1.at fun o e=>lift _ o D.i1z e) (p2.at fun o e=>lift _ o D.i2z e) np fun c o n1 n2 n3 n4 e=>lift c o n1 (kp c o n1 n2 n3 n4 e)
theorem a58 {z ti to j1 j2 q1 q2:Addr}{k1:Nat}{xs:Array Value}{R:Option Value->Shared->Prop}(hh:A.handled=none) (D:ZipApart z ti to j1 j2 q1 q2) (g1:IsZip u.heap z ti to .none) (g2:IsPair u.heap ti (.ref j1) (.ref j2))
   (t1:u.heap.IsTupleIter j1 q1 k1) (v1:u.heap.IsTuple q1 xs) (hx:xs[k1]? = none) (hR:∀g,(∀c o,c≠z->c≠j1->u.heap.get? c=some o->g.get? c=some o)->R none { u with heap:=g }):wpAny (model prog w) A (pyNext (.ref z)) R E u:=by
 have ty:u.TypeIs (.ref z) "zip" := ⟨_,g1,rfl⟩
 unfold pyNext
 refine Aa (Eg (Bn ty E9 (Bm E9 ty Ih ?_ (HX _))))
 show wpAny (model prog w) _ (field (.ref z) 2 >>= _) _ _ u
 refine Aa (BO g1 rfl (x:=.bool false) rfl ?_)
 show wpAny (model prog w) _ (field (.ref z) 3 >>= _) _ _ u
 refine Aa (BO g1 rfl (x:=.ref ti) rfl (Aa (BA g2 rfl ?_)))
 show wpAny (model prog w) _ (Ce (.ref z) >>= _) _ _ u
 refine Aa ?_
 unfold Ce
 refine Aa (BO g1 rfl (x:=.none) rfl (Ae ?_))
 simp only[if_true]
 refine Aa (CH (Aa (BO g1 rfl (x:=.ref to) rfl (Aa (Bu g1 (by simp) fun m1 y1 d1=>?_)))))
 have z1:IsZip m1 z ti to .ellipsis:=y1
 refine Aa ?_
 simp only[Ii,Iy,Iz,IC]
 refine Aa (Aa (Hl ?_))
 show wpAny (model prog w) _ (BF (.ref j1) >>= _) _ _ _
 refine Aa (a2z hh (t1.extBut d1.extBut D.i1z) (v1.extBut d1.extBut D.l1z) hx fun m2 e d2 he=>?_)
 obtain⟨oe,e1,e2⟩:=he
 have z2:IsZip m2 z ti to .ellipsis:=d2 _ _ D.i1z.symm z1
 have ne:e≠z:=fun q=>by
   subst q
   rw[z2] at e1
   cases e1
   simp at e2
 refine Bu z2 (by simp) fun m3 _ d3=>?_
 refine Aa (Eh (T := "StopIteration") (b:=true) ⟨oe,d3.extBut _ _ ne e1,e2⟩ Gw ?_)
 exact Ae (hR m3 fun c o n1 n3 q=>d3.extBut _ _ n1 (d2 _ _ n3 (d1.extBut _ _ n1 q)))
end
noncomputable def Ity (K:Ab) (l1 l2:Addr):It where
 go:=fun i H=>∃xs ys x y,SqT K H l1 xs/\SqT K H l2 ys/\xs[i]? = some x/\ys[i]? = some y
 yld:=fun i H v H'=>∃x y p,(∀xs,SqT K H l1 xs->xs[i]? = some x)/\(∀ys,SqT K H l2 ys->ys[i]? = some y)/\H p=none/\H'=upd H p (.tup [x,y])/\v=.ref p
 stop:=fun i H=>∃xs ys,SqT K H l1 xs/\SqT K H l2 ys/\xs.length<=i
theorem v6 {X:Cx}{pins:List (Addr×Obj)}{σ:St}{H:Hp}{s:Shared}{l:Addr}{xs:List V}(I:Inv X pins σ H s) (h:SqT X.K H l xs) (f:FpOk X pins H l):False:=by
 rcases h with (q|⟨o,q⟩)|⟨o,its,n,q,_⟩
 . rw[f.1] at q;cases q
 . rw[f.1] at q;cases q
 . have e:=I.ok.mod.kin _ _ q
   rcases f.2.2.2.1 with z|z
   . exact I.ok.noex l o e z
   . exact absurd (AC (Ap e) (Ax I.ok.bsz z)) (Bi _)
noncomputable def a7b (n l1 l2:Addr) (i:Nat) (h:Heap):Prop:=IsZip h (n+4) (n+2) (n+3) .none/\IsPair h (n+2) (.ref n) (.ref (n+1))/\(∃a b,IsPair h (n+3) a b)/\h.IsTupleIter n l1 i/\h.IsTupleIter (n+1) l2 i
theorem a4q {P:Program}{w:World}{K:Ab}{elts:List Expr}{x1} {pos:Pos}(n l1 l2:Addr):Turn P w K (.Tuple elts x1 pos) (Ity K l1 l2) (df n) (n+4) (a7b n l1 l2) where
 mem:=by simp[df]
 obj:=fun i h st b hb=>by
   obtain⟨hz,hTI,⟨a,c,hTO⟩,⟨o1,e1,c1,d1⟩,⟨o2,e2,c2,d2⟩⟩:=st
   unfold df at hb
   simp only[Al,AN,or_false] at hb
   rcases hb with rfl|rfl|rfl|rfl|rfl
   . exact⟨_,hz,fun v z=>by cases z⟩
   . exact⟨_,hTI,fun v z=>by cases z⟩
   . exact⟨_,hTO,fun v z=>by cases z⟩
   . exact⟨o1,e1,fun v z=>by rw[d1] at z;cases z⟩
   . exact⟨o2,e2,fun v z=>by rw[d2] at z;cases z⟩
 keep:=fun i h h' st k=>by
   obtain⟨hz,hTI,⟨a,c,hTO⟩,h1,h2⟩:=st
   exact⟨k _ (by simp[df]) _ hz,k _ (by simp[df]) _ hTI,⟨a,c,k _ (by simp[df]) _ hTO⟩,h1.at fun o e=>k _ (by simp[df]) o e,h2.at fun o e=>k _ (by simp[df]) o e⟩
 item:=by
   intro X hP hw hK hc i pins s σ H E I hf st hg
   subst hP hw hK
   obtain⟨hz,hTI,⟨a,c,hTO⟩,h1,h2⟩:=st
   obtain⟨xs,ys,x,y,q1,q2,hx,hy⟩:=hg
   obtain⟨its1,r1,L1,_⟩:=I.tuple q1
   obtain⟨its2,r2,L2,_⟩:=I.tuple q2
   obtain⟨u,hu,ru⟩:=r1.get hx
   obtain⟨v,hv,rv⟩:=r2.get hy
   have D:ZipApart (n+4) (n+2) (n+3) n (n+1) l1 l2:=pe (fun z=>v6 I q1 (hf _ z)) (fun z=>v6 I q2 (hf _ z))
   refine a3t D hz hTI hTO h1 h2 (show s.heap.IsTuple l1 its1.toArray from L1) (show s.heap.IsTuple l2 its2.toArray from L2) (x:=u) (y:=v) (by simpa using hu) (by simpa using hv) fun h' a1 a2 a3 a4 a5 hk=>?_
   have I1:Inv X pins σ H { s with heap:=h' }:=I.turnedL (ch:=df n) (t':=s.toks) (fun b o hb e=>by
     unfold df at hb
     simp only[Al,AN,or_false,not_or] at hb
     exact hk b o hb.1 hb.2.2.1 hb.2.2.2.1 hb.2.2.2.2 e) hf
   refine⟨.ref s.heap.objs.size,rfl,wpAny_letOwnedTupleGo_zip a1 fun h2' hz' hs'=>?_⟩
   have I2:Inv X pins σ H { s with heap:=h2' }:=I1.turnedL (s:={ s with heap:=h' }) (ch:=df n) (t':=s.toks) (fun b o hb e=>by
     unfold df at hb
     simp only[Al,AN,or_false,not_or] at hb
     exact hs'.extBut _ _ hb.1 e) hf
   have fresh:H s.heap.objs.size=none:=I.hok.fresh (Ah _)
   have pz:s.heap.objs.size≠n+4:=Ck (Ap hz)
   have I3:Inv X pins σ (upd H s.heap.objs.size (.tup [x,y])) { s with heap:=h2' }:=by
     refine I2.track fresh ?_ (Ck I.lt) (fun z c' e e2'=>?_) (fun p hp e2'=>?_) ?_
     . cases q:X.s₀.heap.get? s.heap.objs.size with
       | none=>rfl
       | some o=>exact absurd (AC (Ap q) I.sz) (Bi _)
     . obtain⟨v',q⟩:=I.cell z c' e
       exact absurd (e2' ▸ q.lt) (Bi _)
     . exact absurd (e2' ▸ Ap (I.pin p hp).1) (Bi _)
     . exact⟨by show 2<=sizeLine;decide,[u,v],.cons ru (.cons rv .nil),⟨_,hs'.extBut _ _ pz a5,rfl,_,rfl⟩⟩
   have hpn:∀b∈df n,b≠s.heap.objs.size:=fun b hb e=>by
     have q3:∃o,s.heap.get? b=some o:=by
       unfold df at hb
       simp only[Al,AN,or_false] at hb
       obtain⟨o1,g1,_⟩:=h1
       obtain⟨o2,g2,_⟩:=h2
       rcases hb with rfl|rfl|rfl|rfl|rfl
       . exact⟨_,hz⟩
       . exact⟨_,hTI⟩
       . exact⟨_,hTO⟩
       . exact⟨_,g1⟩
       . exact⟨_,g2⟩
     obtain⟨o,q3⟩:=q3
     exact absurd (e ▸ Ap q3) (Bi _)
   have hTI':IsPair h' (n+2) (.ref n) (.ref (n+1)):=hk _ _ D.TIz D.TITO D.TIi1 D.TIi2 hTI
   refine⟨.ref s.heap.objs.size,_,I3,rfl,⟨x,y,_,fun zs hz2=>by rw[I.tuple_inj hz2 q1];exact hx,fun zs hz2=>by rw[I.tuple_inj hz2 q2];exact hy,fresh,rfl,rfl⟩,⟨hz',hs'.extBut _ _ D.TIz hTI',⟨_,_,hs'.extBut _ _ D.TOz a2⟩,a3.extBut hs'.extBut D.i1z,a4.extBut hs'.extBut D.i2z⟩,fun b hb=>?_⟩
   rw[ah (hpn b hb)];exact (hf b hb).1
 done:=by
   intro X hP hw hK hc i pins s σ H E I hf st hg
   subst hP hw hK
   obtain⟨hz,hTI,⟨a,c,hTO⟩,h1,h2⟩:=st
   obtain⟨xs,ys,q1,q2,hl⟩:=hg
   obtain⟨its1,r1,L1,_⟩:=I.tuple q1
   have hlen:=r1.length
   have D:ZipApart (n+4) (n+2) (n+3) n (n+1) l1 l2:=pe (fun z=>v6 I q1 (hf _ z)) (fun z=>v6 I q2 (hf _ z))
   refine a58 (I.ok.hd hc) D hz hTI h1 (show s.heap.IsTuple l1 its1.toArray from L1) (by rw[Cr,BK (by omega)]) fun h' hk=>⟨rfl,I.turnedL (ch:=df n) (t':=s.toks) (fun b o hb e=>?_) hf⟩
   unfold df at hb
   simp only[Al,AN,or_false,not_or] at hb
   exact hk b o hb.1 hb.2.2.2.1 e
 self:=fun _ _ _ _ _ st h=>Ij st.1 h
theorem a2a (l1 l2:Addr) (xs ys:Array Value):Meets (Builtin.«zip.__new__» ⟨[.type "zip",.ref l1,.ref l2],[]⟩) (fun _ R s=>s.heap.IsTuple l1 xs/\s.heap.IsTuple l2 ys/\
   R (.ok (.ret (.ref (s.heap.objs.size+4)))) { s with heap:=((((s.heap.push { cls:=.type "tuple_iterator",data:=.fields #[.ref l1,.int 0 0] }).push { cls:=.type "tuple_iterator",data:=.fields #[.ref l2,.int 0 0] }).push { cls:=.type "tuple",data:=.seq #[.ref s.heap.objs.size,.ref (s.heap.objs.size+1)] }).push { cls:=.type "tuple",data:=.seq #[.none,.none] }).push { cls:=.type "zip",data:=.fields #[.none,.bool false,.bool false,.ref (s.heap.objs.size+2),.ref (s.heap.objs.size+3)] } }) :=
 .of_wp fun prog w A R s h=>by
   obtain⟨m,g,d,tk,os⟩:=s
   obtain⟨a1,a2,h⟩:=h
   have sub:=sub_zip
   have b1:IQ (IZ ⟨m,g,d,tk,os⟩) l1 xs:=a1
   have b2:IQ (IZ ⟨m.push { cls:=.type "tuple_iterator",data:=.fields #[.ref l1,.int 0 0] },g,d,tk,os⟩) l2 ys:=by
     obtain⟨o,e,r⟩:=a2
     exact⟨o,Ad _ e,r⟩
   have z1:(m.push { cls:=.type "tuple_iterator",data:=.fields #[.ref l1,.int 0 0] }).objs.size=m.objs.size+1:=Bg ..
   wp_walk using ET b1,ET b2
   refine⟨_,rfl,?_⟩
   simp only[Bg]
   exact h
section
variable {X:Cx}
noncomputable def a7a (K:Ab) (ta:TA):TI:=fun σ H R=>ta σ H fun vs H1=>∃l1 l2 xs ys,vs=[.ref l1,.ref l2]/\SqT K H1 l1 xs/\SqT K H1 l2 ys/\R (Ity K l1 l2) H1
theorem a8f {a b:Expr}{ta:TA}{p pos tpos:Pos}{elts:List Expr}{x1} (hg:Gl X "zip") (hm:X.mg "zip" = none) (ha:PA X [a,b] ta) (hs:starEach [a,b] X.env=[(false,eval a X.env),(false,eval b X.env)]) (hs2:starEach [b] X.env=[(false,eval b X.env)]) :
   PI X (.Tuple elts x1 tpos) (.Call (.Name "zip" p) [a,b] [] pos) (a7a X.K ta):=by
 intro pins s σ H R I h
 refine Call_ (ii I hg hm boot_zip (Cg (thn (ha pos pins s σ H _ I h) fun us s1 ⟨vs,H1,I1,r1,q1⟩=>?_) (by rw[hs,hs2]) (by rw[hs2];rfl)))
 obtain⟨l1,l2,xs,ys,e,q1,q2,q⟩:=q1
 subst e
 cases r1 with
 | cons r rr =>
   cases rr with
   | cons r' rr =>
     cases rr
     cases r
     cases r'
     obtain⟨its1,v1,e1,_⟩:=I1.tuple q1
     obtain⟨its2,v2,e2,_⟩:=I1.tuple q2
     have T1:s1.heap.IsTuple l1 its1.toArray:=e1
     have T2:s1.heap.IsTuple l2 its2.toArray:=e2
     refine callType_new F.called_zip (by decide) (F.typeCall_zip_2 _ _) (F.newCall_zip_2 _ _) (fun obj=>F.args_object_init_3 obj _ _) F.entry_zip_new (a2a l1 l2 its1.toArray its2.toArray) ⟨T1,T2,?_⟩
     have z1:∀(m:Heap) (o:Obj),(m.push o).objs.size=m.objs.size+1:=fun m o=>Bg ..
     have hk:∀b o,s1.heap.get? b=some o->∀o1 o2 o3 o4 o5,(((((s1.heap.push o1).push o2).push o3).push o4).push o5).get? b=some o:=fun b o e o1 o2 o3 o4 o5=>Ad _ (Ad _ (Ad _ (Ad _ (Ad _ e))))
     have at0:∀o1 o2 o3 o4 o5:Obj,o1.isFreed=false->(((((s1.heap.push o1).push o2).push o3).push o4).push o5).get? s1.heap.objs.size=some o1:=fun o1 o2 o3 o4 o5 f=>Ad _ (Ad _ (Ad _ (Ad _ (An _ f))))
     have at1:∀o1 o2 o3 o4 o5:Obj,o2.isFreed=false->(((((s1.heap.push o1).push o2).push o3).push o4).push o5).get? (s1.heap.objs.size+1)=some o2:=fun o1 o2 o3 o4 o5 f=>by rw[<- z1 s1.heap o1];exact Ad _ (Ad _ (Ad _ (An _ f)))
     have at2:∀o1 o2 o3 o4 o5:Obj,o3.isFreed=false->(((((s1.heap.push o1).push o2).push o3).push o4).push o5).get? (s1.heap.objs.size+2)=some o3:=fun o1 o2 o3 o4 o5 f=>by
       have e:s1.heap.objs.size+2=((s1.heap.push o1).push o2).objs.size:=by rw[z1,z1]
       rw[e];exact Ad _ (Ad _ (An _ f))
     have at3:∀o1 o2 o3 o4 o5:Obj,o4.isFreed=false->(((((s1.heap.push o1).push o2).push o3).push o4).push o5).get? (s1.heap.objs.size+3)=some o4:=fun o1 o2 o3 o4 o5 f=>by
       have e:s1.heap.objs.size+3=(((s1.heap.push o1).push o2).push o3).objs.size:=by rw[z1,z1,z1]
       rw[e];exact Ad _ (An _ f)
     have at4:∀o1 o2 o3 o4 o5:Obj,o5.isFreed=false->(((((s1.heap.push o1).push o2).push o3).push o4).push o5).get? (s1.heap.objs.size+4)=some o5:=fun o1 o2 o3 o4 o5 f=>by
       have e:s1.heap.objs.size+4=((((s1.heap.push o1).push o2).push o3).push o4).objs.size:=by rw[z1,z1,z1,z1]
       rw[e];exact An _ f
     have g1:=at4 { cls:=.type "tuple_iterator",data:=.fields #[.ref l1,.int 0 0] } { cls:=.type "tuple_iterator",data:=.fields #[.ref l2,.int 0 0] } { cls:=.type "tuple",data:=.seq #[.ref s1.heap.objs.size,.ref (s1.heap.objs.size+1)] } { cls:=.type "tuple",data:=.seq #[.none,.none] } { cls:=.type "zip",data:=.fields #[.none,.bool false,.bool false,.ref (s1.heap.objs.size+2),.ref (s1.heap.objs.size+3)] } rfl
     refine⟨⟨_,g1,rfl⟩,?_⟩
     refine Ij (s:={ s1 with heap:=_ }) g1 ?_
     refine⟨s1.heap.objs.size+4,df s1.heap.objs.size,a7b s1.heap.objs.size l1 l2,Ity X.K l1 l2,H1,rfl,I1.kept (t':=s1.toks) fun b o e=>hk b o e _ _ _ _ _,a4q _ _ _,⟨g1,at2 _ _ _ _ _ rfl,⟨_,_,at3 _ _ _ _ _ rfl⟩,⟨_,at0 _ _ _ _ _ rfl,rfl,rfl⟩,⟨_,at1 _ _ _ _ _ rfl,rfl,rfl⟩⟩,fun b hb=>?_,q⟩
     have hge:s1.heap.objs.size<=b:=by
       unfold df at hb
       simp only[Al,AN,or_false] at hb
       rcases hb with rfl|rfl|rfl|rfl|rfl
       . exact Co _ 4
       . exact Co _ 2
       . exact Co _ 3
       . exact Ah _
       . exact Co _ 1
     exact I1.fpOk (H':=H1) hge (I1.hok.fresh hge)
theorem a7e {a b:Expr}{ta:TA}{p pos tpos:Pos}{elts:List Expr}{x1} (hg:Gl X "zip") (hm:X.mg "zip" = none) (ha:QA X [a,b] ta) (hs:starEach [a,b] X.env=[(false,eval a X.env),(false,eval b X.env)]:=by rfl) (hs2:starEach [b] X.env=[(false,eval b X.env)]:=by rfl) :
   QI X (.Tuple elts x1 tpos) (.Call (.Name "zip" p) [a,b] [] pos) (a7a X.K ta):=⟨a8f hg hm ha.run hs hs2⟩
end
section
variable {X:Cx}
noncomputable def aak (K:Ab) (w:World) (td ty:TE):TE:=fun σ H Q=>td σ H fun x H1=>ty σ H1 fun y H2=>∃a kvs z v,x=.ref a/\y=.str z/\uu K w a kvs/\kvs.lookup z=some v/\Q v H2
theorem a8w {K:Ab}{w:World}{o i:Expr}{pos:Pos}{td ty:TE}(hK:X.K=K) (hw:X.w=w) (ho:QE X o td) (hi:QE X i ty) (hs:NoSl i):QE X (.Subscript o i pos) (aak K w td ty):=by
 subst hK hw
 refine⟨fun pins s σ H Q I h=>?_⟩
 refine zr Ft.lookup hs (thn (ho.run pins s σ H _ I h) fun u s1 ⟨x,H1,I1,rx,q1⟩=>thn (hi.run pins s1 σ H1 _ I1 q1) fun iv s2 ⟨y,H2,I2,ry,a,kvs,z,v,ex,ey,hd,hv,q2⟩=>?_)
 subst ex ey
 obtain rfl:u=Value.ref a:=rx
 obtain⟨t',rfl⟩:=ry
 obtain⟨es,n,hl,hk,hno,hr⟩:=hd
 have mp2:s2.heap.MapOf (strKind X.prog X.w) a (fun k=>findBy BU es k):=Iv I2.kIn hl hk
 have hz:=hr z
 rw[hv] at hz
 obtain⟨w',hw',rw'⟩:=RelO.some_of (v:=v) (o:=findBy BU es z) hz
 exact⟨mp2.typeIs,Ig (Fq _ _ z t') mp2 hw' ⟨v,H2,I2.tok _,rw',q2⟩⟩
theorem tq {K:Ab}(hK:X.K=K):cy X (.builtin "isinstance") (fun xs H Q=>(∃z,xs=[.str z,.ty "list"]/\Q (.bl false) H)\/(∃a ys,xs=[.ref a,.ty "list"]/\SqT K H a ys/\Q (.bl false) H)\/(∃a ys,xs=[.ref a,.ty "list"]/\SqL K H a ys/\Q (.bl true) H)):=by
 subst hK
 intro pins s σ H xs us Q I r h
 rcases h with⟨z,rfl,q⟩|⟨a,ys,rfl,hq,q⟩|⟨a,ys,rfl,hq,q⟩
 . cases r with
   | cons r1 r =>
     cases r with
     | cons r2 r =>
       cases r
       obtain⟨t,rfl⟩:=r1
       cases r2
       exact IsiPair.str_list ⟨.bl false,H,I.tok _,rfl,q⟩
 . cases r with
   | cons r1 r =>
     cases r with
     | cons r2 r =>
       cases r
       cases r1
       cases r2
       obtain⟨its,rv,p,hz⟩:=I.tuple hq
       obtain⟨o,e,hc,_⟩:=p
       exact IsiPair.tuple_list e hc ⟨.bl false,H,I.tok _,rfl,q⟩
 . exact uo pins s σ H _ us Q I r ⟨a,ys,rfl,hq,q⟩
end
end L2
namespace K51
open PySem PySem.Spec L2 Mir
variable {P:Program}{w:World}{K:Ab}{mg:Str->Option Value}{base:Heap}{f g gS gN gA gW gI gL gF gO gT gB C fI CM CF fJ gD gR gU gH gM gE gC gK gP gX:Addr}{fd gd dS dN dA dW dI dL dF dO dT dB dD dR dU dH dM dE dC dK dP dX:FuncData}
theorem lenK {X:Cx}{K:Ab}(h:X.K=K):cy X (.builtin "len") (fun xs H Q=>∃p ys,xs=[.ref p]/\(SqL K H p ys\/SqT K H p ys)/\Q (.int ys.length) H):=by subst h;exact du
theorem ixTK {X:Cx}{K:Ab}(h:X.K=K):IxR X (rIxT K):=by subst h;exact ay
theorem ixK {X:Cx}{K:Ab}(h:X.K=K):IxR X (rIxL K):=by subst h;exact ef
theorem cx {n:Nat}(h:n<=1000):n<sizeLine:=fk h
theorem bn {n:Nat}(h:n<=1000):n<=sizeLine:=BV (fk h)
theorem at0 {α:Type}{x:α}{xs:List α}:atI (x::xs) 0=some x:=c8 (xs:=x::xs) (v:=x) (j:=0) rfl
noncomputable def Ok (x:Str):Prop:=(PyData.str x).canLay0=true
theorem a5r (xs:List V) (n:Nat):cutV xs (some (n:Int)) none=xs.drop n:=by
 unfold cutV
 rw[HT.sIx_nat,show HT.sIx xs.length xs.length none=xs.length from rfl]
 by_cases h:n<=xs.length
 . rw[DE h,Bj (by rw[Ba];omega)]
 . rw[FG (by omega),Ik,Gj (by omega),List.take_nil]
inductive Pl
 | row (r:List Str)
 | call (x c:Str) (vs:List Str)
noncomputable def PlAt (H:Hp) (t:Addr):Pl->Prop
 | .row r=>H t=some (.tup (r.map V.str))
 | .call x c vs=>∃v,H t=some (.tup [.str "call",.str x,.str c,.ref v])/\H v=some (.tup (vs.map V.str))
theorem PlAt.same {H H':Hp}{t:Addr}{p:Pl}(h:PlAt H t p) (e:Same H H'):PlAt H' t p:=by
 cases p with
 | row r=>exact e _ _ h
 | call x c vs=>obtain⟨v,h1,h2⟩:=h;exact⟨v,e _ _ h1,e _ _ h2⟩
noncomputable def PlOk:Pl->Prop
 | .row r=>(∃h r' fs,r=h::r'/\(h,fs)∈forms/\fs.length=r'.length)/\∀y∈r,Ok y
 | .call x c vs=>Ok x/\Ok c/\∀y∈vs,Ok y
theorem we:∀c∈Mir.letters.cps.toList++Mir.figures.cps.toList,c<128:=by decide +kernel
theorem ng {y:Str}(h:bx y=true):Ok y:=by
 have h2:y.cps.toList.all dk=true:=by
   unfold bx at h
   split at h
   . cases h
   . rw[Cc] at h;exact h.2
 unfold Ok
 simp only[EO]
 unfold PyData.strOk
 rw[<- Array.all_toList,Dc]
 intro c hc
 have h3:=Dc.mp h2 c hc
 unfold dk at h3
 rw[Bool.or_eq_true] at h3
 have:c<128:=we c (List.mem_append.mpr (h3.imp of_decide_eq_true of_decide_eq_true))
 simp only[decide_eq_true_eq]
 omega
theorem i7:∀y∈([("set" : Str),"read","write","new","free","first","second","nil","any","","is","not","if","while","call","cell","stretch","tree"]:List Str),(PyData.str y).canLay0=true:=by decide +kernel
theorem qd:∀x∈forms,x.1 ≠ "if" /\ x.1 ≠ "while" /\ x.1 ≠ "call" := by decide +kernel
theorem yw {H:Hp}{t:Addr}{p:Pl}(h:PlAt H t p) (ok:PlOk p):∃(w:Str) (vs:List V),H t=some (.tup (.str w::vs))/\w ≠ "if" /\ w ≠ "while" := by
 cases p with
 | row r=>obtain⟨⟨w,r',fs,rfl,h1,h2⟩,_⟩:=ok;exact⟨w,r'.map V.str,h,(qd _ h1).1,(qd _ h1).2.1⟩
 | call x c vs=>obtain⟨v,h1,h2⟩:=h;exact⟨"call",_,h1,by decide +kernel,by decide +kernel⟩
inductive Deed
 | plain (p:Pl)
 | cond (r:List Str) (a b:List Deed)
 | loop (r:List Str) (F P:List (List Str)) (a:List Deed)
inductive DeedX (K:Ab) (H:Hp) (L:Addr->List Deed->Prop) (t:Addr):Deed->Prop
 | plain (p:Pl) (h1:PlAt H t p) (h2:PlOk p):DeedX K H L t (.plain p)
 | cond (c i o:Addr) (r:List Str) (a b:List Deed) (h:H t=some (.tup [.str "if",.ref c,.ref i,.ref o])) (hc:H c=some (.tup (r.map V.str))) (okr:∀y∈r,Ok y) (hi:L i a) (ho:L o b):DeedX K H L t (.cond r a b)
 | loop (c td i fa pa:Addr) (r:List Str) (F P:List (List Str)) (a:List Deed) (h:H t=some (.tup [.str "while",.ref c,.ref td,.ref i])) (hc:H c=some (.tup (r.map V.str))) (okr:∀y∈r,Ok y) (htd:H td=some (.tup [.ref fa,.ref pa])) (hF:RowsAt K H fa F) (hP:RowsAt K H pa P) (okF:∀r∈F,∀y∈r,Ok y) (okP:∀r∈P,∀y∈r,Ok y) (lF:F.length<=10) (lP:P.length<=10) (hi:L i a):DeedX K H L t (.loop r F P a)
noncomputable def ListX (K:Ab) (H:Hp):List Nat->Addr->List Deed->Prop
 | [],_,_=>False
 | b::bs,l,ds=>∃ts:List Addr,H l=some (.lst (ts.map V.ref))/\Paired (DeedX K H (ListX K H bs)) ts ds/\ts.length<=b
section
variable {K:Ab}{H H':Hp}
theorem DeedX.same {L L':Addr->List Deed->Prop}{t:Addr}{d:Deed}(h:DeedX K H L t d) (e:Same H H') (hL:∀l ds,L l ds->L' l ds):DeedX K H' L' t d:=by
 cases h with
 | plain p h1 h2=>exact .plain p (h1.same e) h2
 | cond c i o r a b h hc okr hi ho=>exact .cond c i o r a b (e _ _ h) (e _ _ hc) okr (hL _ _ hi) (hL _ _ ho)
 | loop c td i fa pa r F P a h hc okr htd hF hP okF okP lF lP hi=>exact .loop c td i fa pa r F P a (e _ _ h) (e _ _ hc) okr (e _ _ htd) (hF.same e) (hP.same e) okF okP lF lP (hL _ _ hi)
theorem ListX.same:∀{bs:List Nat}{l:Addr}{ds:List Deed},ListX K H bs l ds->Same H H'->ListX K H' bs l ds
 | [],_,_,h,_=>h.elim
 | b::bs,l,ds,h,e=>by
   obtain⟨ts,h1,h2,h3⟩:=h
   exact⟨ts,e _ _ h1,Paired.mapP h2 fun _ _ z=>z.same e fun _ _ y=>ListX.same y e,h3⟩
structure Prc where
 name:Str
 res:Str
 ps:List Str
 F1:List (List Str)
 P1:List (List Str)
 F2:List (List Str)
 P2:List (List Str)
 body:List Deed
structure PrcX (K:Ab) (H:Hp) (bs:List Nat) (t pt t1 t2 f1 p1 f2 p2 bd:Addr) (p:Prc):Prop where
 tup:H t=some (.tup [.str p.name,.ref pt,.str p.res,.ref t1,.ref t2,.ref bd])
 pt:H pt=some (.tup (p.ps.map V.str))
 t1:H t1=some (.tup [.ref f1,.ref p1])
 t2:H t2=some (.tup [.ref f2,.ref p2])
 f1:RowsAt K H f1 p.F1
 p1:RowsAt K H p1 p.P1
 f2:RowsAt K H f2 p.F2
 p2:RowsAt K H p2 p.P2
 body:ListX K H bs bd p.body
 okn:Ok p.name
 okr:Ok p.res
 okp:∀y∈p.ps,Ok y
 ok1:(∀r∈p.F1,∀y∈r,Ok y)/\∀r∈p.P1,∀y∈r,Ok y
 ok2:(∀r∈p.F2,∀y∈r,Ok y)/\∀r∈p.P2,∀y∈r,Ok y
 l1:p.F1.length<=10/\p.P1.length<=10
 l2:p.F2.length<=10/\p.P2.length<=10
noncomputable def PrcAt (K:Ab) (H:Hp) (bs:List Nat) (t:Addr) (p:Prc):Prop:=∃pt t1 t2 f1 p1 f2 p2 bd,PrcX K H bs t pt t1 t2 f1 p1 f2 p2 bd p
theorem PrcAt.same {bs:List Nat}{t:Addr}{p:Prc}(h:PrcAt K H bs t p) (e:Same H H'):PrcAt K H' bs t p:=by
 obtain⟨pt,t1,t2,f1,p1,f2,p2,bd,x⟩:=h
 exact⟨pt,t1,t2,f1,p1,f2,p2,bd,e _ _ x.tup,e _ _ x.pt,e _ _ x.t1,e _ _ x.t2,x.f1.same e,x.p1.same e,x.f2.same e,x.p2.same e,x.body.same e,x.okn,x.okr,x.okp,x.ok1,x.ok2,x.l1,x.l2⟩
end
noncomputable def innL:Deed->List (List Deed)
 | .plain _=>[]
 | .cond _ a b=>[a,b]
 | .loop _ _ _ a=>[a]
inductive spLists (vs:List V) (H:Hp) (Q:VK) (E:XK):Prop
 | cond (t i o:Addr) (c:V) (h0:vs=[.ref t]) (h:H t=some (.tup [.str "if",c,.ref i,.ref o])) (q:∀l,H l=none->Q (.ref l) (upd H l (.lst [.ref i,.ref o])))
 | loop (t i:Addr) (c d:V) (h0:vs=[.ref t]) (h:H t=some (.tup [.str "while",c,d,.ref i])) (q:∀l,H l=none->Q (.ref l) (upd H l (.lst [.ref i])))
 | none (t:Addr) (w:Str) (vs':List V) (h0:vs=[.ref t]) (h:H t=some (.tup (.str w::vs'))) (n1:w ≠ "if") (n2:w ≠ "while") (q:∀l,H l=none->Q (.ref l) (upd H l (.lst [])))
theorem a59 {K:Ab}{bs:List Nat}{H H0:Hp}{t:Addr}{d:Deed}{vs:List V}{Q:VK}{E:XK}(h:DeedX K H0 (ListX K H0 bs) t d) (e:Same H0 H) (h0:vs=[.ref t]) (q:∀l as,H l=none->Paired (ListX K H0 bs) as (innL d)->Q (.ref l) (upd H l (.lst (as.map V.ref)))):spLists vs H Q E:=by
 cases h with
 | plain p h1 h2 =>
   obtain⟨w,vs',hw,n1,n2⟩:=yw h1 h2
   exact .none t w vs' h0 (e _ _ hw) n1 n2 fun l hl=>q l [] hl .nil
 | cond c i o r a b h hc okr hi ho=>exact .cond t i o _ h0 (e _ _ h) fun l hl=>q l [i,o] hl (.cons hi (.cons ho .nil))
 | loop c td i fa pa r F P a h hc okr htd hF hP okF okP lF lP hi=>exact .loop t i _ _ h0 (e _ _ h) fun l hl=>q l [i] hl (.cons hi .nil)
end K51
namespace L2
open PySem PySem.Spec
noncomputable def zipF (p:Str->Bool) (as bs:List Str):List Str:=((as.zip bs).filter fun x=>p x.1).map (·.2)
theorem a3a {K:Ab}{l1 l2:Addr}{H1:Hp}{σ:St}{ix:List Nat}{tc:TT}{te:TE}{Q:VK}(as bs:List Str) (p:Str->Bool) (h1:SqT K H1 l1 (as.map V.str)) (h2:SqT K H1 l2 (bs.map V.str)) (hl:as.length=bs.length) (hz:as.length<=1000)
   (ht:∀a b H2,∀Q':Bool->Hp->Prop,Q' (p a) H2->tc (some (.str a)::some (.str b)::bz σ ix) H2 Q')
   (he:∀a b H2,∀Q':VK,Q' (.str b) H2->te (some (.str a)::some (.str b)::bz σ ix) H2 Q')
   (hQ:∀D H',H1 D=none->Same H1 H'->H' D=some (.lst ((zipF p as bs).map V.str))->Q (.ref D) H'):yy K (Ity K l1 l2) H1 σ ix tc te Q:=by
 intro D hD
 have put:∀H ys,Same H1 H->Same H1 (upd H D (.lst ys)):=fun H ys e b u q=>by rw[ah (ao q hD)];exact e b u q
 have zl:(as.zip bs).length=as.length:=by rw[EA,<- hl,IR]
 refine⟨fun i m H=>i<=as.length/\m=as.length - i/\Same H1 H/\H D=some (.lst (((((as.zip bs).take i).filter fun x=>p x.1).map (·.2)).map V.str)),⟨as.length,AG _,rfl,put _ _ (Same.refl _),aa⟩,?_⟩
 rintro i m H ⟨hi,rfl,e,hD'⟩
 by_cases hlt:i<as.length
 . have ha:as[i]? = some as[i]:=Ai hlt
   have hb:bs[i]? = some (bs[i]'(by omega)):=Ai (by omega)
   generalize as[i]=a at ha
   generalize bs[i]'(by omega)=b at hb
   refine .inr ⟨⟨_,_,.str a,.str b,e.seqT h1,e.seqT h2,by rw[Ak,ha];rfl,by rw[Ak,hb];rfl⟩,fun x H' hy=>?_⟩
   obtain⟨x',y',p',g1,g2,g3,rfl,rfl⟩:=hy
   have g1':=g1 _ (e.seqT h1)
   have g2':=g2 _ (e.seqT h2)
   rw[Ak,ha] at g1'
   rw[Ak,hb] at g2'
   cases g1'
   cases g2'
   have s1:=ad g3 (.tup [V.str a,V.str b])
   have hzi:(as.zip bs)[i]? = some (a,b):=by rw[List.getElem?_zip_eq_some];exact⟨ha,hb⟩
   refine⟨p',_,_,rfl,SqT.of aa,ht a b _ _ ?_⟩
   have hD2:=s1 _ _ hD'
   cases c:p a with
   | true =>
     rw[if_pos rfl]
     refine he a b _ _ ⟨_,hD2,Bs ?_ (show 1000<sizeLine by decide),as.length - (i+1),by omega,hlt,rfl,put _ _ (e.trans s1),?_⟩
     . rw[Ac,Ac]
       have:=Bx (fun x:Str×Str=>p x.1) ((as.zip bs).take i)
       rw[AS] at this
       omega
     . rw[aa,BX,hzi,CJ,AB,AB]
       show _=some (HO.lst (_++((([(a,b)].filter fun x:Str×Str=>p x.1).map (·.2)).map V.str)))
       rw[FN (by exact c)];rfl
   | false =>
     rw[if_neg Af]
     refine⟨as.length - (i+1),by omega,hlt,rfl,e.trans s1,?_⟩
     rw[hD2,BX,hzi,CJ]
     show _=some (HO.lst (((_++([(a,b)].filter fun x:Str×Str=>p x.1)).map (·.2)).map V.str))
     rw[FO (by simp[c])];simp
 . have ei:i=as.length:=by omega
   subst ei
   have htk:(as.zip bs).take as.length=as.zip bs:=Bj (by rw[zl];exact Ah _)
   rw[htk] at hD'
   exact .inl ⟨⟨_,_,e.seqT h1,e.seqT h2,by rw[Ac];exact Ah _⟩,hQ D H hD e hD'⟩
theorem mt {α β:Type}{l:List α}{g:α->List β}{i:Nat}{x:α}(h:l[i]? = some x):(l.take (i+1)).flatMap g=(l.take i).flatMap g++g x:=by
 rw[BX,h,Ci];simp
theorem aah {α β:Type}(l:List α) (g:α->List β) (i:Nat):((l.take i).flatMap g).length<=(l.flatMap g).length:=by
 have:l.flatMap g=(l.take i).flatMap g++(l.drop i).flatMap g:=by rw[<- Ci,List.take_append_drop]
 rw[this,Ag];exact Co _ _
theorem a3r {α β:Type}{l:List α}{g:α->List β}{i:Nat}{x:α}(h:l[i]? = some x):((l.take i).flatMap g).length+(g x).length<=(l.flatMap g).length:=by
 have:=aah l g (i+1)
 rw[mt h,Ag] at this
 exact this
end L2
namespace K51
open PySem PySem.Spec L2 Mir
variable {P:Program}{w:World}{K:Ab}{mg:Str->Option Value}{base:Heap}{f g gS gN gA gW gI gL gF gO gT gB C fI CM CF fJ gD gR gU gH gM gE gC gK gP gX:Addr}{fd gd dS dN dA dW dI dL dF dO dT dB dD dR dU dH dM dE dC dK dP dX:FuncData}
noncomputable abbrev pq:Stmt:=top 15
noncomputable abbrev sAll:Stmt:=top 19
noncomputable abbrev wf:Stmt:=top 20
abbrev DeedS (K:Ab) (H:Hp) (t:Addr) (d:Deed):Prop:=DeedX K H (fun _ _=>True) t d
theorem DeedS.same {K:Ab}{H H':Hp}{t:Addr}{d:Deed}(h:DeedS K H t d) (e:Same H H'):DeedS K H' t d:=DeedX.same h e fun _ _ z=>z
noncomputable def allD (f:List Deed->List Deed) (d:Deed):List Deed:=d::(innL d).flatMap f
noncomputable def allL:List Nat->List Deed->List Deed
 | [],_=>[]
 | _::bs,ds=>ds.flatMap (allD (allL bs))
inductive spAll (K:Ab) (bs:List Nat) (vs:List V) (H:Hp) (Q:VK) (E:XK):Prop
 | mk (G:Hp) (l:Addr) (ds:List Deed) (h0:vs=[.ref l]) (e:Same G H) (h1:ListX K G bs l ds) (h4:(allL bs ds).length<=100)
     (q:∀fo us H',Same H H'->H fo=none->H' fo=some (.lst (us.map V.ref))->Paired (DeedS K G) us (allL bs ds)->Q (.ref fo) H'):spAll K bs vs H Q E
inductive AI (K:Ab) (bs:List Nat) (G H:Hp) (l fo:Addr) (ds:List Deed) (i:Nat) (σ:St) (H2:Hp):Prop
 | mk (us:List Addr) (z2 z3:Option V) (e:Same H H2) (hf:H2 fo=some (.lst (us.map V.ref))) (hp:Paired (DeedS K G) us ((ds.take i).flatMap (allD (allL bs)))) (hσ:σ=[some (.ref l),some (.ref fo),z2,z3])
inductive AJ (K:Ab) (bs:List Nat) (G H:Hp) (l fo ll:Addr) (as:List Addr) (pre:List Deed) (is:List (List Deed)) (v2:V) (j:Nat) (σ:St) (H2:Hp):Prop
 | mk (us:List Addr) (z3:Option V) (e:Same H H2) (hl:H2 ll=some (.lst (as.map V.ref))) (hf:H2 fo=some (.lst (us.map V.ref))) (hp:Paired (DeedS K G) us (pre++(is.take j).flatMap (allL bs))) (hσ:σ=[some (.ref l),some (.ref fo),some v2,z3])
theorem scListsIn:FnScope ["deed"] ["deed"] (au pq):=⟨rfl,rfl,rfl,by decide +kernel,rfl,by decide +kernel,by decide +kernel⟩
theorem a0n (C:Con K mg w) (F:Fun K "lists_in" "lists_in" pq f fd):FnOk P w K mg base CX0 1 f fd ["deed"] spLists:=by
 refine F.okQ scListsIn (fun vs H Q E h=>?_) (fun cdv A outer s0 H vs Q E hr h=>?_)
 . rcases h with⟨_,_,_,_,rfl,_⟩|⟨_,_,_,_,rfl,_⟩|⟨_,_,_,rfl,_⟩<;>rfl
 have nd:=scListsIn.nd
 rcases h with⟨t,i,o,c,rfl,h,q⟩|⟨t,i,c,d,rfl,h,q⟩|⟨t,w',vs',rfl,h,n1,n2,q⟩
 . refine⟨_,ae (bg (aw bb (af ay (qv 0) ab (fun _ _=>rfl)) b6 (av _)) (ai (b5 (bw (az (af ay (qv 0) ab (fun _ _=>rfl)) (az (af ay (qv 0) ab (fun _ _=>rfl)) a0))))) bq)
   (ai (b5 (gj (aw bb (af ay (qv 0) ab (fun _ _=>rfl)) b6 (av _)) (bw (az (af ay (qv 0) ab (fun _ _=>rfl)) a0)) (bw a0)))),?_⟩
   refine⟨_,rfl,t,_,0,_,rfl,rfl,SqT.of h,rfl,rfl,_,rfl,iteB (fun _=>?_) (fun c=>absurd c (by decide +kernel))⟩
   exact⟨_,rfl,t,_,2,_,rfl,rfl,SqT.of h,rfl,_,rfl,t,_,3,_,rfl,rfl,SqT.of h,rfl,(show 2<=sizeLine by decide),q⟩
 . refine⟨_,ae (bg (aw bb (af ay (qv 0) ab (fun _ _=>rfl)) b6 (av _)) (ai (b5 (bw (az (af ay (qv 0) ab (fun _ _=>rfl)) (az (af ay (qv 0) ab (fun _ _=>rfl)) a0))))) bq)
   (ai (b5 (gj (aw bb (af ay (qv 0) ab (fun _ _=>rfl)) b6 (av _)) (bw (az (af ay (qv 0) ab (fun _ _=>rfl)) a0)) (bw a0)))),?_⟩
   refine⟨_,rfl,t,_,0,_,rfl,rfl,SqT.of h,rfl,rfl,_,rfl,iteB (fun c=>absurd c (by decide +kernel)) (fun _=>?_)⟩
   refine⟨_,rfl,t,_,0,_,rfl,rfl,SqT.of h,rfl,rfl,_,rfl,iteB (fun _=>?_) (fun c=>absurd c (by decide +kernel))⟩
   exact⟨_,rfl,t,_,3,_,rfl,rfl,SqT.of h,rfl,(show 1<=sizeLine by decide),q⟩
 . refine⟨_,ae (bg (aw bb (af ay (qv 0) ab (fun _ _=>rfl)) b6 (av _)) (ai (b5 (bw (az (af ay (qv 0) ab (fun _ _=>rfl)) (az (af ay (qv 0) ab (fun _ _=>rfl)) a0))))) bq)
   (ai (b5 (gj (aw bb (af ay (qv 0) ab (fun _ _=>rfl)) b6 (av _)) (bw (az (af ay (qv 0) ab (fun _ _=>rfl)) a0)) (bw a0)))),?_⟩
   refine⟨_,rfl,t,_,0,_,rfl,rfl,SqT.of h,at0,rfl,_,rfl,iteB (fun c=>absurd (V.str.inj (of_decide_eq_true c)) n1) (fun _=>?_)⟩
   refine⟨_,rfl,t,_,0,_,rfl,rfl,SqT.of h,at0,rfl,_,rfl,iteB (fun c=>absurd (V.str.inj (of_decide_eq_true c)) n2) (fun _=>?_)⟩
   exact⟨AG _,q⟩
theorem scAll:FnScope ["deeds","found","deed","inner"] ["deeds"] (au sAll):=⟨rfl,rfl,rfl,by decide +kernel,rfl,by decide +kernel,by decide +kernel⟩
theorem a84:FnOk P w K mg base CX0 1 f fd ["deeds"] (spAll K []) :=
 ⟨fun vs H Q E h=>by obtain⟨G,l,ds,_,_,h1,_⟩:=h;exact h1.elim,fun A outer s H args us vs Q E _ _ _ _ h=>by obtain⟨G,l,ds,_,_,h1,_⟩:=h;exact h1.elim⟩
theorem jp {n b:Nat}{bs:List Nat}(C:Con K mg w) (F:Fun K "all_deeds" "all_deeds" sAll f fd) (GS:FnOk P w K mg base CX0 1 gS dS ["deed"] spLists) (cS:Cal K mg "lists_in" gS dS ["deed"]) (GR:FnOk P w K mg base CX0 (n+1) f fd ["deeds"] (spAll K bs)) (cR:Cal K mg "all_deeds" f fd ["deeds"]):FnOk P w K mg base CX0 (n+1+1) f fd ["deeds"] (spAll K (b::bs)):=by
 refine F.okQ scAll (fun vs H Q E h=>?_) (fun cdv A outer s0 H vs Q E hr h=>?_)
 . obtain⟨G,l,ds,rfl,_⟩:=h;rfl
 obtain⟨G,l,ds,rfl,eG,hLX,hcnt,q⟩:=h
 obtain⟨ts,hl',hp,htl⟩:=hLX
 have hl:=eG _ _ hl'
 have nd:=scAll.nd
 have hr1:=hr.mono (j:=1) (by omega)
 refine⟨_,ae (ar (i:=1) nd rfl (Or.inl rfl) (bw a0))
   (ae (dv AH rfl (gc (qv 0)) (bo (i:=2) nd rfl (Or.inl rfl)) (ae (bp (fq (K:=K) rfl AR BL BM em (qv 1) (aj (qv 2) a0)))
   (ai (dv AH rfl (gc (aq GS hr1 rfl cS.name cS.keep cS.bind .nil ap (aj (qv 2) a0))) (bo (i:=3) nd rfl (Or.inl rfl)) (ai (bp (fq (K:=K) rfl AR DO DP mi (qv 1) (bi (aq GR hr rfl cR.name cR.keep cR.bind .nil ap (aj (qv 3) a0)) a0))))))))
   (ai (b5 (qv 1)))),?_⟩
 have hpl:=AD hp
 have hcnt':(ds.flatMap (allD (allL bs))).length<=100:=hcnt
 refine⟨AG _,fun fo hfo=>?_⟩
 have s1:=ad hfo (.lst [])
 have k1:(upd H fo (.lst [])) fo=some (.lst []):=aa
 generalize upd H fo (.lst [])=H1 at s1 k1 |-
 dsimp only[ba]
 refine ak (a:=tFor _ _ _) fun D1 hN1 hR1 hC1=>?_
 refine⟨_,rfl,l,rfl,⟨_,SqL.of (s1 _ _ hl)⟩,?_⟩
 refine i8 (xs:=ts.map V.ref) (AI K bs G H l fo ds) ⟨[],none,none,s1,k1,.nil,rfl⟩ (fun i σ H' _ z=>by obtain⟨us,_,_,e,_⟩:=z;exact SqL.of (e _ _ hl)) ?_ ?_
 . rintro i x σ H2 hx ⟨us,z2,z3,e,hf,hpp,rfl⟩
   rw[Ak] at hx
   obtain⟨t,ht,rfl⟩:=Be.mp hx
   obtain⟨d,hd,hX⟩:=Paired.nth hp ht
   have hsz:=a3r (g:=allD (allL bs)) hd
   have htk:=mt (g:=allD (allL bs)) hd
   have hdF:allD (allL bs) d=d::(innL d).flatMap (allL bs):=rfl
   rw[hdF,A0] at hsz
   have hul:=AD hpp
   refine⟨_,rfl,(.inl ⟨rfl,_,SqL.of hf⟩),_,rfl,fo,_,_,rfl,rfl,hf,cx (by rw[Ac,hul];omega),?_⟩
   have k3:(upd H2 fo (.lst (us.map V.ref++[.ref t]))) fo=some (.lst ((us++[t]).map V.ref)):=by rw[aa,AB];rfl
   have e3:Same H (upd H2 fo (.lst (us.map V.ref++[.ref t]))):=fun b o z=>by rw[ah (ao z hfo)];exact e _ _ z
   have hp3:Paired (DeedS K G) (us++[t]) ((ds.take i).flatMap (allD (allL bs))++[d]):=Paired.snocP hpp (DeedX.same hX (Same.refl _) fun _ _ _=>trivial)
   generalize upd H2 fo (.lst (us.map V.ref++[.ref t]))=H3 at k3 e3 |-
   generalize us++[t]=us3 at k3 hp3
   dsimp only[ba]
   refine⟨_,rfl,a59 hX (eG.trans e3) rfl fun ll as hll hin=>?_⟩
   have s4:=ad hll (.lst (as.map V.ref))
   have k4:(upd H3 ll (.lst (as.map V.ref))) ll=some (.lst (as.map V.ref)):=aa
   have nll:ll≠fo:=(ao k3 hll).symm
   generalize upd H3 ll (.lst (as.map V.ref))=H4 at s4 k4 |-
   refine⟨ll,rfl,⟨_,SqL.of k4⟩,?_⟩
   refine i8 (xs:=as.map V.ref) (AJ K bs G H l fo ll as ((ds.take i).flatMap (allD (allL bs))++[d]) (innL d) (.ref t)) ⟨us3,z3,e3.trans s4,k4,s4 _ _ k3,(by simpa using hp3),rfl⟩ (fun j σ H' _ z=>by obtain⟨_,_,_,h,_⟩:=z;exact SqL.of h) ?_ ?_
   . rintro j x σ H5 hx5 ⟨us5,y3,e5,hl5,hf5,hp5,rfl⟩
     rw[Ak] at hx5
     obtain⟨c,hc,rfl⟩:=Be.mp hx5
     obtain⟨a,ha,hLa⟩:=Paired.nth hin hc
     have hszj:=a3r (g:=allL bs) ha
     have hul5:=AD hp5
     rw[Ag,Ag] at hul5
     have h1:[d].length=1:=rfl
     refine⟨_,rfl,(.inl ⟨rfl,_,SqL.of hf5⟩),_,rfl,G,c,a,rfl,eG.trans e5,hLa,(by omega),fun fo' us' H6 e6 _ k6 hp6=>?_⟩
     have hul6:=AD hp6
     have hf6:=e6 _ _ hf5
     refine⟨fo,fo',_,_,rfl,rfl,hf6,k6,bn (by rw[Ac,Ac,hul5,hul6];omega),?_⟩
     refine⟨us5++us',_,fun b o z=>by rw[ah (ao z hfo)];exact e6 _ _ (e5 _ _ z),by rw[ah nll];exact e6 _ _ hl5,by rw[aa,AB],?_,rfl⟩
     rw[mt (g:=allL bs) ha,<- BI]
     exact Paired.app hp5 hp6
   . rintro σ H5 ⟨us5,y3,e5,hl5,hf5,hp5,rfl⟩
     refine⟨us5,_,_,e5,hf5,?_,rfl⟩
     have:(innL d).take (as.map V.ref).length=innL d:=Bj (by rw[Ac,AD hin];exact Ah _)
     rw[this] at hp5
     rw[htk,hdF,<- Gv,<- BI]
     exact hp5
 rintro σ H2 ⟨us,z2,z3,e,hf,hpp,rfl⟩
 have:ds.take (ts.map V.ref).length=ds:=Bj (by rw[Ac,hpl];exact Ah _)
 rw[this] at hpp
 exact hN1 _ _ ⟨_,rfl,q fo us H2 e hfo hf hpp⟩
noncomputable abbrev ql:Stmt:=top 21
noncomputable abbrev qk:Stmt:=top 22
noncomputable def xj (x:Str):Bool := !decide (V.str x=V.str "field")
noncomputable def gv (h:Str) (r:List Str):List Str:=match forms.lookup h with
 | some fs=>zipF xj fs r
 | none=>[]
noncomputable def wrdP:Pl->List Str
 | .row (h::r)=>gv h r
 | .row []=>[]
 | .call x _ vs=>x::vs
noncomputable def wrd:Deed->List Str
 | .plain p=>wrdP p
 | .cond r _ _=>r.drop 1
 | .loop r F P _=>r.drop 1++words (F++P)
structure TOk (xs:List Str) (F P:List (List Str)):Prop where
 f:j5 F
 p:j5 P
 ne:∀r∈F++P,r≠[]
 sub:∀y∈words (F++P),y∈xs
structure ROk (r:List Str):Prop where
 len:r.length=3
 sh:∀y∈r,Short y
noncomputable def DOk (xs:List Str):Deed->Prop
 | .plain (.row r)=>∀y∈r,Short y
 | .plain (.call x c vs)=>Short x/\vs.length<=8/\∀y∈vs,Short y
 | .cond r _ _=>ROk r
 | .loop r F P _=>ROk r/\TOk xs F P
theorem TOk.few {xs:List Str}{F P:List (List Str)}(h:TOk xs F P) (hx:xs.length<=20) {ss:List Str}(hn:ss.Nodup) (hs:∀y∈ss,y∈words (F++P)):ss.length<=20:=Ax (Bf hn fun y hy=>h.sub y (hs y hy)) hx
theorem oq:∀{rs:List (List Str)}{y:Str},(∀r∈rs,∀x∈r,Short x)->y∈words rs->Short y:=fun {rs y} h hy=>by
 unfold words at hy
 obtain⟨l,hl,hy⟩:=List.mem_flatten.mp hy
 obtain⟨r,hr,rfl⟩:=AF.mp hl
 exact h r hr y (CU (CK.mp hy).1)
inductive spWords (K:Ab) (vs:List V) (H:Hp) (Q:VK) (E:XK):Prop
 | mk (t:Addr) (d:Deed) (xs:List Str) (h0:vs=[.ref t]) (h1:DeedS K H t d) (h2:DOk xs d) (h3:xs.length<=20)
     (q:∀(l:Addr) (ws:List Str) (H':Hp),Same H H'->H' l=some (.lst (ws.map V.str))->(∀y,y∈ws↔y∈wrd d)->ws.length<=30->Q (.ref l) H'):spWords K vs H Q E
theorem qj:(forms.map (·.1)).Nodup:=by decide +kernel
theorem a2u:∀x∈forms,x.2.length<=3:=by decide +kernel
theorem ko {β:Type}:∀{l:List (Str×β)}{h:Str}{b:β},(l.map (·.1)).Nodup->(h,b)∈l->l.lookup h=some b
 | [],_,_,_,hm=>by cases hm
 | (k,c)::l,h,b,hn,hm=>by
   rw[AA,Bb] at hn
   by_cases e:h=k
   . subst e
     rcases Al.mp hm with z|z
     . cases z;rw[List.lookup_cons_self]
     . exact absurd (AF.mpr ⟨_,z,rfl⟩) hn.1
   . rcases Al.mp hm with z|z
     . cases z;exact absurd rfl e
     . rw[Ej]
       have:(h == k)=false:=beq_false_of_ne e
       rw[this];exact ko hn.2 z
theorem a6c (p:Str->Bool) (as bs:List Str):(zipF p as bs).length<=as.length:=by
 unfold zipF
 rw[Ac]
 have:=Bx (fun x:Str×Str=>p x.1) (as.zip bs)
 rw[EA] at this
 omega
theorem scWords:FnScope ["deed"] ["deed"] (au wf):=⟨rfl,rfl,rfl,by decide +kernel,rfl,by decide +kernel,by decide +kernel⟩
theorem yj (C:Con K mg w) (F:Fun K "words_of" "words_of" wf f fd) (GN:FnOk P w K mg base CX0 1 gN dN ["telling"] (t9 K)) (cN:Cal K mg "names_of" gN dN ["telling"]):FnOk P w K mg base CX0 2 f fd ["deed"] (spWords K):=by
 refine F.okQ scWords (fun vs H Q E h=>?_) (fun cdv A outer s0 H vs Q E hr h=>?_)
 . obtain⟨t,d,xs,rfl,_⟩:=h;rfl
 obtain⟨t,d,xs,rfl,hX,hok,hxs,q⟩:=h
 have nd:=scWords.nd
 obtain⟨aF,tsF,gF,kF,nF,rF⟩:=C.forms
 refine⟨_,ae (bg (aw bb (af ay (qv 0) ab (fun _ _=>rfl)) b6 (av _)) (ai (b5 (ax ir (bw (az (af ay (qv 0) ab (fun _ _=>rfl)) a0)) (be dr rfl C.list Bv (az (af ay (qv 0) ab (fun _ _=>rfl)) a0))))) bq)
   (ae (bg (aw bb (af ay (qv 0) ab (fun _ _=>rfl)) b6 (av _)) (ai (b5 (be dr rfl C.list Bv (az (cj i6 (af ay (qv 0) ab (fun _ _=>rfl)) (cr ab) dj) a0)))) bq)
   (ae (bg (aw bb (af ay (qv 0) ab (fun _ _=>rfl)) b6 (av _)) (ai (b5 (ax ir (be dr rfl C.list Bv (az (cj i6 (af ay (qv 0) ab (fun _ _=>rfl)) (cr ab) dj) a0)) (aq GN hr rfl cN.name cN.keep cN.bind .nil ap (az (af ay (qv 0) ab (fun _ _=>rfl)) a0))))) bq)
   (ai (b5 (a2i (K:=K) rfl ["sort","word"] [] (a7e rfl C.zip (az (a8w (K:=K) (w:=w) rfl rfl (qe_g gF) (af ay (qv 0) ab (fun _ _=>rfl)) (fun _ _=>rfl)) (az (cj i6 (qv 0) (cr ab) dj) a0))) (fun _ _ _ _=>(a05 (aw qz (qv 0) b6 (av _)))) (fun _ _ _ _=>(qv 1))))))),?_⟩
 cases hX with
 | plain p h1 h2 =>
   cases p with
   | call x c vs =>
     obtain⟨v,hv1,hv2⟩:=h1
     obtain⟨ox,ol,ov⟩:=hok
     refine⟨_,rfl,t,_,0,_,rfl,rfl,SqT.of hv1,rfl,rfl,_,rfl,iteB (fun _=>?_) (fun c=>absurd c (by decide +kernel))⟩
     refine⟨_,rfl,t,_,1,_,rfl,rfl,SqT.of hv1,rfl,(show 1<=sizeLine by decide),fun l1 hl1=>?_⟩
     have s1:=ad hl1 (.lst [.str x])
     have k1:(upd H l1 (.lst [.str x])) l1=some (.lst [.str x]):=aa
     generalize upd H l1 (.lst [.str x])=H1 at s1 k1 |-
     refine⟨_,rfl,t,_,3,_,rfl,rfl,SqT.of (s1 _ _ hv1),rfl,v,_,rfl,.inr (SqT.of (s1 _ _ hv2)),fun l2 hl2=>?_⟩
     have s2:=ad hl2 (.lst (vs.map V.str))
     refine⟨l1,l2,_,_,rfl,rfl,s2 _ _ k1,aa,bn (by rw[Ac];show 1+_<=1000;omega),fun l3 hl3=>?_⟩
     have s3:=ad hl3 (.lst ([V.str x]++vs.map V.str))
     exact q l3 (x::vs) _ ((s1.trans s2).trans s3) aa (fun y=>HJ) (by rw[A0];omega)
   | row r =>
     obtain⟨⟨h,r',fs,rfl,hf,hl⟩,okr⟩:=h2
     have h1':H t=some (.tup (.str h::r'.map V.str)):=h1
     obtain⟨n1,n2,n3⟩:=qd _ hf
     have hf3:fs.length<=3:=a2u _ hf
     refine⟨_,rfl,t,_,0,_,rfl,rfl,SqT.of h1',at0,rfl,_,rfl,iteB (fun c=>absurd (V.str.inj (of_decide_eq_true c)) n3) (fun _=>?_)⟩
     refine⟨_,rfl,t,_,0,_,rfl,rfl,SqT.of h1',at0,rfl,_,rfl,iteB (fun c=>absurd (V.str.inj (of_decide_eq_true c)) n1) (fun _=>?_)⟩
     refine⟨_,rfl,t,_,0,_,rfl,rfl,SqT.of h1',at0,rfl,_,rfl,iteB (fun c=>absurd (V.str.inj (of_decide_eq_true c)) n2) (fun _=>?_)⟩
     obtain⟨tf,htf,hsq⟩:∃tf,(tsF.map fun x=>(x.1,V.ref x.2)).lookup h=some (.ref tf)/\∀H',SqT K H' tf (fs.map V.str):=by
       have hm:h∈tsF.map (·.1):=by rw[nF];exact AF.mpr ⟨_,hf,rfl⟩
       obtain⟨⟨h',tf⟩,hin,rfl⟩:=AF.mp hm
       refine⟨tf,ko ?_ (AF.mpr ⟨_,hin,rfl⟩),rF _ _ _ hin hf⟩
       rw[Cv]
       show (tsF.map (·.1)).Nodup
       rw[nF];exact qj
     refine⟨_,rfl,t,_,0,_,rfl,rfl,SqT.of h1',at0,aF,_,h,_,rfl,rfl,kF,htf,?_⟩
     refine⟨_,rfl,_,rfl,t,_,rfl,SqT.of h1',fun p1 H1 e1 k1=>?_⟩
     have hc:cutV (V.str h::r'.map V.str) (some 1) none=r'.map V.str:=by
       have:=oi (r:=h::r') (k:=1);simpa using this
     rw[show cutV (V.str h::r'.map V.str) (some (1:Int)) none=r'.map V.str from hc] at k1
     refine⟨tf,p1,_,_,rfl,hsq _,k1,?_⟩
     refine a3a fs r' xj (hsq _) k1 hl (by omega) (fun a b H2 Q' q'=>⟨_,rfl,rfl,_,rfl,q'⟩) (fun a b H2 Q' q'=>⟨_,rfl,q'⟩) (fun D H' hD e' hD'=>?_)
     refine q D _ H' (e1.trans e') hD' (fun y=>?_) (Ax (a6c _ _ _) (by omega))
     show _↔y∈gv h r'
     unfold gv
     rw[ko qj hf]
 | cond c i o r a b h hc okr hi ho =>
   refine⟨_,rfl,t,_,0,_,rfl,rfl,SqT.of h,rfl,rfl,_,rfl,iteB (fun c=>absurd c (by decide +kernel)) (fun _=>?_)⟩
   refine⟨_,rfl,t,_,0,_,rfl,rfl,SqT.of h,rfl,rfl,_,rfl,iteB (fun _=>?_) (fun c=>absurd c (by decide +kernel))⟩
   have hlen:r.length=3:=ROk.len hok
   refine⟨_,rfl,t,_,1,_,rfl,rfl,SqT.of h,rfl,_,rfl,c,_,rfl,SqT.of hc,fun p1 H1 e1 k1=>?_⟩
   rw[show cutV (r.map V.str) (some (1:Int)) none=(r.drop 1).map V.str from oi (r:=r) (k:=1)] at k1
   refine⟨p1,_,rfl,.inr k1,fun l hl=>?_⟩
   exact q l (r.drop 1) _ (e1.trans (ad hl _)) aa (fun y=>HJ) (by rw[Ba];omega)
 | loop c td i fa pa r F' P' a h hc okr htd hF hP okF okP lF lP hi =>
   obtain⟨hr',hT⟩:=hok
   have hlen:r.length=3:=ROk.len hr'
   refine⟨_,rfl,t,_,0,_,rfl,rfl,SqT.of h,rfl,rfl,_,rfl,iteB (fun c=>absurd c (by decide +kernel)) (fun _=>?_)⟩
   refine⟨_,rfl,t,_,0,_,rfl,rfl,SqT.of h,rfl,rfl,_,rfl,iteB (fun c=>absurd c (by decide +kernel)) (fun _=>?_)⟩
   refine⟨_,rfl,t,_,0,_,rfl,rfl,SqT.of h,rfl,rfl,_,rfl,iteB (fun _=>?_) (fun c=>absurd c (by decide +kernel))⟩
   refine⟨_,rfl,t,_,1,_,rfl,rfl,SqT.of h,rfl,_,rfl,c,_,rfl,SqT.of hc,fun p1 H1 e1 k1=>?_⟩
   rw[show cutV (r.map V.str) (some (1:Int)) none=(r.drop 1).map V.str from oi (r:=r) (k:=1)] at k1
   refine⟨p1,_,rfl,.inr k1,fun l hl=>?_⟩
   have s2:=ad hl (.lst ((r.drop 1).map V.str))
   have k2:(upd H1 l (.lst ((r.drop 1).map V.str))) l=some (.lst ((r.drop 1).map V.str)):=aa
   generalize upd H1 l (.lst ((r.drop 1).map V.str))=H2 at s2 k2 |-
   have e2:=e1.trans s2
   refine⟨_,rfl,t,_,2,_,rfl,rfl,SqT.of (e2 _ _ h),rfl,td,F',P',rfl,⟨[fa,pa],SqT.of (e2 _ _ htd),.cons (hF.same e2) (.cons (hP.same e2) .nil)⟩,hT.f,hT.p,hT.ne,fun ss hn hs=>Bs (hT.few hxs hn hs) (by decide),fun p zs H3 hp e3 k3 hzn hzm hzs=>?_⟩
   have hzl:=hT.few hxs hzn fun y hy=>(hzm y).mp hy
   refine⟨l,p,_,_,rfl,rfl,e3 _ _ k2,k3,bn (by rw[Ac,Ac,Ba];omega),fun l4 hl4=>?_⟩
   have s4:=ad hl4 (.lst ((r.drop 1).map V.str++zs.map V.str))
   refine q l4 (r.drop 1++zs) _ ((e2.trans e3).trans s4) (by rw[aa,AB]) (fun y=>?_) (by rw[Ag,Ba];omega)
   show _↔y∈r.drop 1++words (F'++P')
   rw[As,As,hzm y]
noncomputable def allW (bs:List Nat) (p:Prc):List Str:=p.ps++[p.res]++words (p.F1++p.P1)++words (p.F2++p.P2)++(allL bs p.body).flatMap wrd
structure PrcOk (bs:List Nat) (xs:List Str) (p:Prc):Prop where
 ps:p.ps.length<=8/\∀y∈p.ps,Short y
 res:Short p.res
 t1:TOk xs p.F1 p.P1
 t2:TOk xs p.F2 p.P2
 ds:∀d∈allL bs p.body,DOk xs d
 few:(allL bs p.body).length<=30
 len:xs.length<=20
 names:∀y∈allW bs p,bx y=true->y∈xs
theorem a5f {h:Str}{r:List Str}{y:Str}(hy:y∈gv h r):y∈r:=by
 unfold gv at hy
 cases e:forms.lookup h with
 | none=>rw[e] at hy;cases hy
 | some fs =>
   rw[e] at hy
   obtain⟨⟨a,b⟩,h1,rfl⟩:=AF.mp hy
   exact (Eu (CK.mp h1).1).2
theorem DOk.short {xs:List Str}{d:Deed}(h:DOk xs d) {y:Str}(hy:y∈wrd d):Short y:=by
 cases d with
 | plain p =>
   cases p with
   | row r =>
     cases r with
     | nil=>cases hy
     | cons h' r=>exact h y (Ao _ (a5f hy))
   | call x c vs =>
     obtain⟨h1,_,h3⟩:=h
     rcases Al.mp hy with rfl|z
     . exact h1
     . exact h3 y z
 | cond r a b=>exact ROk.sh h y (CU hy)
 | loop r F P a =>
   obtain⟨h1,h2⟩:=h
   rcases As.mp hy with z|z
   . exact h1.sh y (CU z)
   . refine oq (fun r hr=>?_) z
     rcases As.mp hr with z|z
     . exact (h2.f.2 r z).2
     . exact (h2.p.2 r z).2
theorem TOk.short {xs:List Str}{F P:List (List Str)}(h2:TOk xs F P) {y:Str}(hy:y∈words (F++P)):Short y:=by
 refine oq (fun r hr=>?_) hy
 rcases As.mp hr with z|z
 . exact (h2.f.2 r z).2
 . exact (h2.p.2 r z).2
theorem a0s {bs:List Nat}{xs:List Str}{p:Prc}(h:PrcOk bs xs p) {y:Str}(hy:y∈allW bs p):Short y:=by
 unfold allW at hy
 simp only[As,Au] at hy
 rcases hy with (((z|z)|z)|z)|z
 . exact h.ps.2 y z
 . rw[z];exact h.res
 . exact h.t1.short z
 . exact h.t2.short z
 . obtain⟨d,hd,hy⟩:=Bh.mp z
   exact (h.ds d hd).short hy
inductive spNamesIn (K:Ab) (bs:List Nat) (vs:List V) (H:Hp) (Q:VK) (E:XK):Prop
 | mk (G:Hp) (t:Addr) (p:Prc) (xs:List Str) (h0:vs=[.ref t]) (e:Same G H) (h1:PrcAt K G bs t p) (h2:PrcOk bs xs p)
     (q:∀(l:Addr) (zs:List Str) (H':Hp),Same H H'->H l=none->H' l=some (.lst (zs.map V.str))->zs.Nodup->E8 zs=true->(∀y,y∈zs↔bx y=true/\y∈allW bs p)->Q (.ref l) H'):spNamesIn K bs vs H Q E
inductive NI (H:Hp) (t lo fo:Addr) (us:List Addr) (ds:List Deed) (pre:List Str) (i:Nat) (σ:St) (H2:Hp):Prop
 | mk (ws:List Str) (z2:Option V) (e:Same H H2) (hl:H2 lo=some (.lst (us.map V.ref))) (hf:H2 fo=some (.lst (ws.map V.str))) (hm:∀y,y∈ws↔y∈pre++(ds.take i).flatMap wrd) (hw:ws.length<=60+30*i) (hσ:σ=[some (.ref t),some (.ref fo),z2])
theorem scNamesIn:FnScope ["procedure","words","deed"] ["procedure"] (au ql):=⟨rfl,rfl,rfl,by decide +kernel,rfl,by decide +kernel,by decide +kernel⟩
theorem a0m {n:Nat}{bs:List Nat}(hn1:1<=n) (C:Con K mg w) (F:Fun K "names_in" "names_in" ql f fd) (GN:FnOk P w K mg base CX0 1 gN dN ["telling"] (t9 K)) (cN:Cal K mg "names_of" gN dN ["telling"]) (GA:FnOk P w K mg base CX0 (n+1) gA dA ["deeds"] (spAll K bs)) (cA:Cal K mg "all_deeds" gA dA ["deeds"]) (GW:FnOk P w K mg base CX0 2 gW dW ["deed"] (spWords K)) (cW:Cal K mg "words_of" gW dW ["deed"]) (GI:FnOk P w K mg base CX0 1 gI dI ["text"] (spB1 bx)) (cI:Cal K mg "is_name" gI dI ["text"]):FnOk P w K mg base CX0 (n+1+1) f fd ["procedure"] (spNamesIn K bs):=by
 refine F.okQ scNamesIn (fun vs H Q E h=>?_) (fun cdv A outer s0 H vs Q E hr h=>?_)
 . obtain⟨G,t,p,xs,rfl,_⟩:=h;rfl
 obtain⟨G,t,p,xs,rfl,eG,⟨pt,t1,t2,f1,p1,f2,p2,bd,x⟩,ok,q⟩:=h
 have nd:=scNamesIn.nd
 have hr1:=hr.mono (j:=1) (by omega)
 have hr2:=hr.mono (j:=2) (by omega)
 refine⟨_,ae (ar (i:=1) nd rfl (Or.inl rfl) (ax ir (ax ir (ax ir (be dr rfl C.list Bv (az (af ay (qv 0) ab (fun _ _=>rfl)) a0)) (bw (az (af ay (qv 0) ab (fun _ _=>rfl)) a0))) (aq GN hr1 rfl cN.name cN.keep cN.bind .nil ap (az (af ay (qv 0) ab (fun _ _=>rfl)) a0))) (aq GN hr1 rfl cN.name cN.keep cN.bind .nil ap (az (af ay (qv 0) ab (fun _ _=>rfl)) a0))))
   (ae (dv AH rfl (gc (aq GA hr rfl cA.name cA.keep cA.bind .nil ap (az (af ay (qv 0) ab (fun _ _=>rfl)) a0))) (bo (i:=2) nd rfl (Or.inl rfl)) (ai (bp (fq (K:=K) rfl AR DO DP mi (qv 1) (bi (aq GW hr2 rfl cW.name cW.keep cW.bind .nil ap (aj (qv 2) a0)) a0)))))
   (ai (b5 (bf (j6 rfl) rfl C.sorted FH (bi (be (vq rfl) rfl C.set GJ (bv (kd (gc (qv 1)) (fun _ _ _ _=>(a05 (ft (aq GI hr1 rfl cI.name cI.keep cI.bind .nil ap (aj (qv 0) a0))))) (fun _ _ _ _=>(qv 0))) a0)) a0))))),?_⟩
 have tp:=eG _ _ x.tup
 refine⟨_,rfl,t,_,1,_,rfl,rfl,SqT.of tp,rfl,pt,_,rfl,.inr (SqT.of (eG _ _ x.pt)),fun l1 hl1=>?_⟩
 have s1:=ad hl1 (.lst (p.ps.map V.str))
 have k1:(upd H l1 (.lst (p.ps.map V.str))) l1=some (.lst (p.ps.map V.str)):=aa
 generalize upd H l1 (.lst (p.ps.map V.str))=H1 at s1 k1 |-
 refine⟨_,rfl,t,_,2,_,rfl,rfl,SqT.of (s1 _ _ tp),rfl,(show 1<=sizeLine by decide),fun l2 hl2=>?_⟩
 have s2':=ad hl2 (.lst [.str p.res])
 have k2:(upd H1 l2 (.lst [.str p.res])) l2=some (.lst [.str p.res]):=aa
 generalize upd H1 l2 (.lst [.str p.res])=H2 at s2' k2 |-
 have s2:=s1.trans s2'
 have hps:=ok.ps.1
 refine⟨l1,l2,_,_,rfl,rfl,s2' _ _ k1,k2,bn (by rw[Ac];show _+1<=1000;omega),fun l3 hl3=>?_⟩
 have s3':=ad hl3 (.lst (p.ps.map V.str++[.str p.res]))
 have k3:(upd H2 l3 (.lst (p.ps.map V.str++[.str p.res]))) l3=some (.lst ((p.ps++[p.res]).map V.str)):=by rw[aa,AB];rfl
 generalize upd H2 l3 (.lst (p.ps.map V.str++[.str p.res]))=H3 at s3' k3 |-
 have s3:=s2.trans s3'
 have g3:=eG.trans s3
 refine⟨_,rfl,t,_,3,_,rfl,rfl,SqT.of (s3 _ _ tp),rfl,t1,p.F1,p.P1,rfl,⟨[f1,p1],SqT.of (g3 _ _ x.t1),.cons (x.f1.same g3) (.cons (x.p1.same g3) .nil)⟩,ok.t1.f,ok.t1.p,ok.t1.ne,fun ss hn hs=>Bs (ok.t1.few ok.len hn hs) (by decide),fun q4 z4 H4 hq4 e4' k4 hzn hzm _=>?_⟩
 have hz4:=ok.t1.few ok.len hzn fun y hy=>(hzm y).mp hy
 have e4:=s3.trans e4'
 refine⟨l3,q4,_,_,rfl,rfl,e4' _ _ k3,k4,bn (by rw[Ac,Ac,Ag];show _+1+_<=1000;omega),fun l5 hl5=>?_⟩
 have s5':=ad hl5 (.lst ((p.ps++[p.res]).map V.str++z4.map V.str))
 have k5:(upd H4 l5 (.lst ((p.ps++[p.res]).map V.str++z4.map V.str))) l5=some (.lst ((p.ps++[p.res]++z4).map V.str)):=by rw[aa,AB (l₁:=p.ps++[p.res])]
 generalize upd H4 l5 (.lst ((p.ps++[p.res]).map V.str++z4.map V.str))=H5 at s5' k5 |-
 have s5:=e4.trans s5'
 have g5:=eG.trans s5
 refine⟨_,rfl,t,_,4,_,rfl,rfl,SqT.of (s5 _ _ tp),rfl,t2,p.F2,p.P2,rfl,⟨[f2,p2],SqT.of (g5 _ _ x.t2),.cons (x.f2.same g5) (.cons (x.p2.same g5) .nil)⟩,ok.t2.f,ok.t2.p,ok.t2.ne,fun ss hn hs=>Bs (ok.t2.few ok.len hn hs) (by decide),fun q6 z6 H6 hq6 e6' k6 hyn hym _=>?_⟩
 have hz6:=ok.t2.few ok.len hyn fun y hy=>(hym y).mp hy
 have e6:=s5.trans e6'
 refine⟨l5,q6,_,_,rfl,rfl,e6' _ _ k5,k6,bn (by rw[Ac,Ac,Ag,Ag];show _+1+_+_<=1000;omega),fun fo hfo=>?_⟩
 have s7':=ad hfo (.lst ((p.ps++[p.res]++z4).map V.str++z6.map V.str))
 have k7:(upd H6 fo (.lst ((p.ps++[p.res]++z4).map V.str++z6.map V.str))) fo=some (.lst ((p.ps++[p.res]++z4++z6).map V.str)):=by rw[aa,AB (l₁:=p.ps++[p.res]++z4)]
 have fo0:H fo=none:=e6.free hfo
 generalize upd H6 fo (.lst ((p.ps++[p.res]++z4).map V.str++z6.map V.str))=H7 at s7' k7 |-
 have s7:=e6.trans s7'
 have hpre:∀y,y∈p.ps++[p.res]++z4++z6↔y∈p.ps++[p.res]++words (p.F1++p.P1)++words (p.F2++p.P2):=fun y=>by
   simp only[As,hzm y,hym y]
 have hprl:(p.ps++[p.res]++z4++z6).length<=60:=by
   rw[Ag,Ag,Ag];show _+1+_+_<=60;omega
 generalize p.ps++[p.res]++z4++z6=w0 at k7 hpre hprl
 clear hzm hym hzn hyn hz4 hz6 k6 k5 k4 k3 k2 k1 s7' s5' s3' s2' s2 s3 s5 e4 e6 g3 g5 e4' e6' hl1 hl2 hl3 hl5 hq4 hq6 s1
 dsimp only[ba]
 refine ak (a:=tFor _ _ _) fun D1 hN1 hR1 hC1=>?_
 refine⟨_,rfl,t,_,5,_,rfl,rfl,SqT.of (s7 _ _ tp),rfl,G,bd,p.body,rfl,eG.trans s7,x.body,Ax ok.few (by decide),fun lo us H8 e8 hlo k8 hus=>?_⟩
 have hlf:lo≠fo:=(ao k7 hlo).symm
 have hul:=AD hus
 have hfew:=ok.few
 refine⟨lo,rfl,⟨_,SqL.of k8⟩,?_⟩
 refine i8 (xs:=us.map V.ref) (NI H t lo fo us (allL bs p.body) (p.ps++[p.res]++words (p.F1++p.P1)++words (p.F2++p.P2))) ⟨w0,none,s7.trans e8,k8,e8 _ _ k7,fun y=>by rw[hpre y];simp,by omega,rfl⟩ (fun i σ H' _ z=>by obtain⟨_,_,_,h,_⟩:=z;exact SqL.of h) ?_ ?_
 . rintro i y σ H9 hy ⟨ws,z2,e9,hl9,hf9,hm9,hw9,rfl⟩
   rw[Ak] at hy
   obtain⟨u,hu,rfl⟩:=Be.mp hy
   obtain⟨d,hd,hX⟩:=Paired.nth hus hu
   have hi30:i<30:=by have:=(Aq.mp hd).1;omega
   refine⟨_,rfl,(.inl ⟨rfl,_,SqL.of hf9⟩),_,rfl,u,d,xs,rfl,DeedS.same hX (eG.trans e9),ok.ds d (AQ hd),ok.len,fun lw vs Ha ea ka hva hla=>?_⟩
   have hfa:=ea _ _ hf9
   refine⟨fo,lw,_,_,rfl,rfl,hfa,ka,bn (by rw[Ac,Ac];omega),?_⟩
   refine⟨ws++vs,_,fun b o z=>by rw[ah (ao z fo0)];exact ea _ _ (e9 _ _ z),by rw[ah hlf];exact ea _ _ hl9,by rw[aa,AB],fun y=>?_,by rw[Ag];omega,rfl⟩
   rw[mt (g:=wrd) hd,As,<- BI,As,hm9 y,hva y]
 rintro σ H9 ⟨ws,z2,e9,hl9,hf9,hm9,hw9,rfl⟩
 rw[Ac,hul,BD] at hm9
 rw[Ac,hul] at hw9
 have hall:∀y,y∈ws↔y∈allW bs p:=hm9
 refine hN1 _ _ ?_
 clear hN1 hR1 hC1
 refine⟨_,rfl,fo,rfl,⟨_,SqL.of hf9⟩,?_⟩
 refine a0k ws bx ia (SqL.of hf9) (by omega) (fun y hy H2 e2 Q' q'=>⟨_,rfl,y,rfl,a0s ok ((hall y).mp hy),fun H3 e3=>⟨_,rfl,q' H3 e3⟩⟩) (fun y H2 Q' q'=>⟨_,rfl,q'⟩) (fun D Ha hD ea kD=>?_)
 have hfl:=Bx bx ws
 have hwl:ws.length<=1000:=by omega
 refine⟨D,_,rfl,SqL.of kD,?_,fun ps ss hps' hdd=>?_⟩
 . exact Bs (FI (Ax hfl hwl)) (by decide)
 have ssub:∀y∈ss,y∈xs:=fun y hy=>by
   obtain⟨h1,h2⟩:=CK.mp ((hdd.mem y).mp hy)
   exact ok.names y ((hall y).mp h1) h2
 have hsl:ss.length<=20:=Ax (Bf hdd.nodup ssub) ok.len
 refine⟨ps,ss,rfl,aa,(by omega),fun l zs hl hperm hs=>?_⟩
 have hl0:=(ad hps' _).free hl
 refine q l zs _ (((e9.trans ea).trans (ad hps' _)).trans (ad hl _)) ((e9.trans ea).free hl0) aa (hperm.nodup_iff.mpr hdd.nodup) hs fun y=>?_
 rw[hperm.mem_iff,hdd.mem y,CK,hall y]
 exact And.comm
end K51
namespace L2
open PySem PySem.Spec
theorem a09 (ys zs:List V) {m:Nat}(hz:zs.length=m) (hm:0<m):cutV (ys++zs) none (some (-(m:Int)))=ys:=by
 unfold cutV
 rw[HT.sIx_none,CW,DM]
 have:HT.sIx (ys++zs).length (ys++zs).length (some (-(m:Int)))=ys.length:=by
   show (if -(m:Int)<0 then (-(m:Int)+((ys++zs).length:Int)).toNat else _)=_
   rw[if_pos (by omega),Ag]
   omega
 rw[this,List.take_left]
end L2
namespace K51
open PySem PySem.Spec L2 Mir
variable {P:Program}{w:World}{K:Ab}{mg:Str->Option Value}{base:Heap}{f g gS gN gA gW gI gL gF gO gT gB C fI CM CF fJ gD gR gU gH gM gE gC gK gP gX:Addr}{fd gd dS dN dA dW dI dL dF dO dT dB dD dR dU dH dM dE dC dK dP dX:FuncData}
noncomputable abbrev sd:Stmt:=top 24
noncomputable abbrev yc:Stmt:=top 25
theorem pick {l:List Addr}{k:Nat}(h:k<l.length):∃b,l[k]? = some b/\atI (l.map V.ref) (k:Int)=some (.ref b)/\b∈l :=
 ⟨l[k],Ai h,c8 (by rw[Ak,Ai h];rfl),De _⟩
abbrev Pre:=List (Nat×Nat)
noncomputable def flat:Pre->List Int
 | []=>[]
 | (a,b)::p=>(a:Int)::(b:Int)::flat p
theorem cm:∀p:Pre,(flat p).length=2*p.length
 | []=>rfl
 | (a,b)::p=>by show (flat p).length+1+1=_;rw[cm p,A0];omega
theorem gy:∀p q:Pre,flat (p++q)=flat p++flat q
 | [],_=>rfl
 | (a,b)::p,q=>by show _::_::flat (p++q)=_;rw[gy p q];rfl
theorem mq:∀{p:Pre}{z:List Int}{i a b:Nat},p[i]? = some (a,b)->(flat p++z)[2*i]? = some (a:Int)/\(flat p++z)[2*i+1]? = some (b:Int)
 | [],_,_,_,_,h=>by cases h
 | (x,y)::p,z,0,a,b,h=>by cases h;exact⟨rfl,rfl⟩
 | (x,y)::p,z,i+1,a,b,h=>mq (p:=p) (i:=i) h
inductive Side (H:Hp) (t:Addr) (s:Nat) (m:Addr):Prop
 | cond (i o:Addr) (c:V) (h:H t=some (.tup [.str "if",c,.ref i,.ref o])) (hs:(s=0/\m=i)\/(s=1/\m=o))
 | loop (c d:V) (h:H t=some (.tup [.str "while",c,d,.ref m])) (hs:s=0)
noncomputable def LFrom (H:Hp):Addr->Pre->Addr->Prop
 | l,[],l'=>l=l'
 | l,(k,s)::p,l'=>∃(ts:List Addr) (t m:Addr),H l=some (.lst (ts.map V.ref))/\ts[k]? = some t/\Side H t s m/\LFrom H m p l'
theorem Side.same {H H':Hp}{t m:Addr}{s:Nat}(h:Side H t s m) (e:Same H H'):Side H' t s m:=by
 rcases h with⟨i,o,c,h,hs⟩|⟨c,d,h,hs⟩
 . exact .cond i o c (e _ _ h) hs
 . exact .loop c d (e _ _ h) hs
theorem LFrom.same {H H':Hp}(e:Same H H'):∀{p:Pre}{l l':Addr},LFrom H l p l'->LFrom H' l p l'
 | [],_,_,h=>h
 | (k,s)::p,l,l',h=>by
   obtain⟨ts,t,m,h1,h2,h3,h4⟩:=h
   exact⟨ts,t,m,e _ _ h1,h2,h3.same e,LFrom.same e h4⟩
theorem LFrom.app {H:Hp}:∀{p q:Pre}{l m l':Addr},LFrom H l p m->LFrom H m q l'->LFrom H l (p++q) l'
 | [],_,_,_,_,h,g=>by cases h;exact g
 | (k,s)::p,q,l,m,l',h,g=>by
   obtain⟨ts,t,x,h1,h2,h3,h4⟩:=h
   exact⟨ts,t,x,h1,h2,h3,LFrom.app h4 g⟩
inductive spListOf (K:Ab) (vs:List V) (H:Hp) (Q:VK) (E:XK):Prop
 | mk (bd pt l:Addr) (p:Pre) (k:Int) (h0:vs=[.ref bd,.ref pt]) (h1:SqT K H pt ((flat p++[k]).map V.int)) (h2:LFrom H bd p l) (h3:p.length<=100) (q:∀H',Same H H'->Q (.ref l) H'):spListOf K vs H Q E
inductive spFound (K:Ab) (vs:List V) (H:Hp) (Q:VK) (E:XK):Prop
 | mk (bd pt l:Addr) (p:Pre) (k:Nat) (ts:List Addr) (h0:vs=[.ref bd,.ref pt]) (h1:SqT K H pt ((flat p++[(k:Int)]).map V.int)) (h2:LFrom H bd p l) (h3:p.length<=100) (h4:H l=some (.lst (ts.map V.ref))) (q1:∀t H',ts[k]? = some t->Same H H'->Q (.ref t) H') (q2:∀H',ts[k]? = none->Same H H'->Q .non H'):spFound K vs H Q E
theorem scListOf:FnScope ["body","path","deeds","place"] ["body","path"] (au sd):=⟨rfl,rfl,rfl,by decide +kernel,rfl,by decide +kernel,by decide +kernel⟩
theorem a1r (C:Con K mg w) (F:Fun K "list_of" "list_of" sd f fd) (GI:FnOk P w K mg base CX0 1 gI dI ["deed"] spLists) (cI:Cal K mg "lists_in" gI dI ["deed"]):FnOk P w K mg base CX0 2 f fd ["body","path"] (spListOf K):=by
 refine F.okQ scListOf (fun vs H Q E h=>?_) (fun cdv A outer s0 H vs Q E hr h=>?_)
 . obtain⟨bd,pt,l,p,k,rfl,_⟩:=h;rfl
 obtain⟨bd,pt,l,p,k,rfl,hpt,hl,hp,q⟩:=h
 have nd:=scListOf.nd
 refine⟨_,ae (ar (i:=2) nd rfl (Or.inl rfl) (qv 0))
   (ae (dv AH rfl (uk rfl C.range (b9 (dq (ax a9o (bf du rfl C.len AM (aj (qv 1) a0)) ab) (b9 a0)))) (bo (i:=3) nd rfl (Or.inl rfl)) (ai (ar (i:=2) nd rfl (Or.inl rfl) (af ef (aq GI hr rfl cI.name cI.keep cI.bind .nil ap (az (af ef (qv 2) (af ay (qv 1) (qv 3) (fun _ _=>rfl)) (fun _ _=>rfl)) a0)) (af ay (qv 1) (ax cg (qv 3) ab) (fun _ _=>rfl)) (fun _ _=>rfl)))))
   (ai (b5 (qv 2)))),?_⟩
 have hlen:(((flat p++[k]).map V.int).length:Int)=2*(p.length:Int)+1:=by rw[Ac,Ag,cm];simp
 refine⟨_,rfl,?_⟩
 dsimp only[ba]
 refine ak (a:=tFor _ _ _) fun D1 hN1 hR1 hC1=>?_
 refine⟨_,rfl,pt,_,rfl,.inr hpt,_,_,rfl,rfl,0,_,rfl,⟨by decide,by decide,by omega,by omega⟩,?_⟩
 rw[show (((((flat p++[k]).map V.int).length:Int) - 1 - 0+1) / 2).toNat=p.length by omega]
 refine rk (fun i σ H1=>Same H H1/\∃(m:Addr) (z3:Option V),LFrom H1 m (p.drop i) l/\σ=[some (.ref bd),some (.ref pt),some (.ref m),z3]) ⟨Same.refl _,bd,none,hl,rfl⟩ ?_ ?_
 . rintro i σ H1 hi ⟨e1,m,z3,hm,rfl⟩
   obtain⟨⟨a,b⟩,hab⟩:∃x,p[i]? = some x:=⟨_,Ai hi⟩
   rw[DF hi,(Aq.mp hab).2] at hm
   obtain⟨ts,t,x,hm1,hm2,hm3,hm4⟩:=hm
   obtain⟨ha,hb⟩:=mq (z:=[k]) hab
   have i1:(0:Int)+(i:Int)*2=((2*i:Nat):Int):=by omega
   have i2:((2*i:Nat):Int)+1=((2*i+1:Nat):Int):=by omega
   rw[i1]
   have at1:atI ((flat p++[k]).map V.int) ((2*i:Nat):Int)=some (.int (a:Int)):=c8 (by rw[Ak,ha];rfl)
   have at2:atI (ts.map V.ref) (a:Int)=some (.ref t):=c8 (by rw[Ak,hm2];rfl)
   have at3:atI ((flat p++[k]).map V.int) (((2*i:Nat):Int)+1)=some (.int (b:Int)):=by rw[i2];exact c8 (by rw[Ak,hb];rfl)
   have hpt1:=e1.seqT hpt
   have fin:∀{nl:Addr} {us:List V},H1 nl=none->atI us (b:Int)=some (.ref x)->Same H1 (upd H1 nl (.lst us))/\LFrom (upd H1 nl (.lst us)) x (p.drop (i+1)) l:=fun hnl _=>⟨ad hnl _,hm4.same (ad hnl _)⟩
   rcases hm3 with⟨i',o,c,h,hs⟩|⟨c,d,h,hs⟩
   . have at4:atI [V.ref i',V.ref o] (b:Int)=some (.ref x):=by rcases hs with⟨rfl,rfl⟩|⟨rfl,rfl⟩<;>rfl
     refine⟨_,rfl,_,rfl,_,rfl,pt,_,_,_,rfl,rfl,hpt1,at1,m,_,_,_,rfl,rfl,SqL.of hm1,at2,.cond t i' o c rfl h fun nl hnl=>?_⟩
     obtain⟨s,g⟩:=fin hnl at4
     exact⟨_,rfl,_,rfl,_,_,rfl,rfl,pt,_,_,_,rfl,rfl,s.seqT hpt1,at3,nl,_,_,_,rfl,rfl,SqL.of aa,at4,e1.trans s,x,_,g,rfl⟩
   . have at4:atI [V.ref x] (b:Int)=some (.ref x):=by subst hs;rfl
     refine⟨_,rfl,_,rfl,_,rfl,pt,_,_,_,rfl,rfl,hpt1,at1,m,_,_,_,rfl,rfl,SqL.of hm1,at2,.loop t x c d rfl h fun nl hnl=>?_⟩
     obtain⟨s,g⟩:=fin hnl at4
     exact⟨_,rfl,_,rfl,_,_,rfl,rfl,pt,_,_,_,rfl,rfl,s.seqT hpt1,at3,nl,_,_,_,rfl,rfl,SqL.of aa,at4,e1.trans s,x,_,g,rfl⟩
 rintro σ H1 ⟨e1,m,z3,hm,rfl⟩
 rw[Ik] at hm
 cases hm
 exact hN1 _ _ ⟨_,rfl,q H1 e1⟩
theorem scFound:FnScope ["body","path","deeds"] ["body","path"] (au yc):=⟨rfl,rfl,rfl,by decide +kernel,rfl,by decide +kernel,by decide +kernel⟩
theorem a55 (C:Con K mg w) (F:Fun K "found_at" "found_at" yc f fd) (GL:FnOk P w K mg base CX0 2 gL dL ["body","path"] (spListOf K)) (cL:Cal K mg "list_of" gL dL ["body","path"]):FnOk P w K mg base CX0 3 f fd ["body","path"] (spFound K):=by
 refine F.okQ scFound (fun vs H Q E h=>?_) (fun cdv A outer s0 H vs Q E hr h=>?_)
 . obtain⟨bd,pt,l,p,k,ts,rfl,_⟩:=h;rfl
 obtain⟨bd,pt,l,p,k,ts,rfl,hpt,hl,hp,hts,q1,q2⟩:=h
 have nd:=scFound.nd
 refine⟨_,ae (ar (i:=2) nd rfl (Or.inl rfl) (aq GL hr rfl cL.name cL.keep cL.bind .nil ap (aj (qv 0) (aj (qv 1) a0))))
   (ai (b5 (gj (aw ku (af ay (qv 1) (c7 bu ab) (fun _ _=>rfl)) (bf du rfl C.len AM (aj (qv 2) a0)) (av _)) (af ef (qv 2) (af ay (qv 1) (c7 bu ab) (fun _ _=>rfl)) (fun _ _=>rfl)) gw))),?_⟩
 refine⟨_,rfl,_,rfl,bd,pt,l,p,k,rfl,hpt,hl,hp,fun H1 e1=>?_⟩
 have hpt1:=e1.seqT hpt
 rw[AB] at hpt1
 have hts1:=e1 _ _ hts
 refine⟨_,rfl,_,rfl,pt,_,_,_,rfl,rfl,hpt1,bh,_,rfl,l,_,rfl,.inl (SqL.of hts1),_,_,rfl,rfl,_,rfl,iteB (fun c=>?_) (fun c=>?_)⟩
 . have c':(k:Int)<((ts.map V.ref).length:Int):=of_decide_eq_true c
   have hk:k<ts.length:=by rw[Ac] at c';omega
   obtain⟨t,ht1,ht2,_⟩:=pick hk
   exact⟨_,rfl,_,rfl,_,rfl,pt,_,_,_,rfl,rfl,hpt1,bh,l,_,_,_,rfl,rfl,SqL.of hts1,ht2,q1 t H1 ht1 e1⟩
 . have c':¬ (k:Int)<((ts.map V.ref).length:Int):=of_decide_eq_false c
   have hk:ts.length<=k:=by rw[Ac] at c';omega
   exact q2 H1 (BK hk) e1
end K51
namespace L2
open PySem PySem.Spec
theorem j9 {α β:Type}{J:It}{H1:Hp}{σ:St}{ix:List Nat}{te:TE}{Q:VK}{I0:Hp->Prop}(xs:List V) (rs:List α) (R:Addr->Hp->V->β->Prop) (f:α->β) (hJ:JSeq J I0 xs) (h0:I0 H1) (hz:xs.length<=1000) (hl:rs.length=xs.length)
   (hR:∀D H H' y r,R D H y r->dz D H H'->R D H' y r)
   (he:∀(D:Addr),H1 D=none->∀(i:Nat) (x:V) (r:α),xs[i]? = some x->rs[i]? = some r->∀H2,Same H1 H2->H2 D≠none->∀Q':VK,(∀y H3,Same H2 H3->R D H3 y (f r)->Q' y H3)->te (some x::bz σ ix) H2 Q')
   (hQ:∀D H' ys,H1 D=none->Same H1 H'->H' D=some (.lst ys)->Paired (fun y r=>R D H' y r) ys (rs.map f)->Q (.ref D) H'):lu J H1 σ ix tYes te Q:=by
 intro D hD
 have put:∀H ys,Same H1 H->Same H1 (upd H D (.lst ys)):=fun H ys e b u q=>by rw[ah (ao q hD)];exact e b u q
 refine⟨fun i m H=>i<=xs.length/\m=xs.length - i/\Same H1 H/\∃ys:List V,H D=some (.lst ys)/\Paired (fun y r=>R D H y r) ys ((rs.take i).map f),⟨xs.length,AG _,rfl,put _ _ (Same.refl _),[],aa,by simpa using Paired.nil⟩,?_⟩
 rintro i m H ⟨hi,rfl,e,ys,hy,hp⟩
 have hI:=hJ.stay _ _ h0 e
 by_cases hlt:i<xs.length
 . refine .inr ⟨hJ.go i H hI hlt,fun x H' hy'=>?_⟩
   obtain⟨rfl,hx⟩:=hJ.yld i H x H' hlt hI hy'
   have hri:i<rs.length:=by omega
   have hr:rs[i]? = some rs[i]:=Ai hri
   have ht:rs.take (i+1)=rs.take i++[rs[i]]:=by rw[BX,hr];rfl
   have hlen:ys.length=i:=by
     have h1:=AD hp
     rw[Ac,AS] at h1
     omega
   dsimp only[tYes]
   rw[if_pos rfl]
   refine he D hD i x rs[i] hx hr _ e (by rw[hy];simp) _ fun y H4 e4 hR4=>?_
   have hput:dz D H4 (upd H4 D (.lst (ys++[y]))):=fun b u q hn=>by rw[ah hn];exact q
   refine⟨ys,e4 _ _ hy,by rw[hlen];exact AC hlt (Ax hz (by decide)),xs.length - (i+1),by omega,hlt,rfl,put _ _ (e.trans e4),ys++[y],aa,?_⟩
   rw[ht,AB]
   exact Paired.snocP (Paired.mapP hp fun a r z=>hR _ _ _ _ _ (hR _ _ _ _ _ z (e4.x D)) hput) (hR _ _ _ _ _ hR4 hput)
 . have hi':i=xs.length:=by omega
   subst hi'
   refine .inl ⟨hJ.stop _ H hI (Ah _),?_⟩
   rw[<- hl,BD] at hp
   exact hQ D H ys hD e hy hp
end L2
namespace K51
open PySem PySem.Spec L2 Mir
variable {P:Program}{w:World}{K:Ab}{mg:Str->Option Value}{base:Heap}{f g gS gN gA gW gI gL gF gO gT gB C fI CM CF fJ gD gR gU gH gM gE gC gK gP gX:Addr}{fd gd dS dN dA dW dI dL dF dO dT dB dD dR dU dH dM dE dC dK dP dX:FuncData}
theorem gh {α:Type}{R:Addr->α->Prop}:∀{ys:List V}{rs:List α},Paired (fun y r=>∃b,y=V.ref b/\R b r) ys rs->∃bs:List Addr,ys=bs.map V.ref/\Paired R bs rs
 | _,_,.nil=>⟨[],rfl,.nil⟩
 | _,_,.cons h t=>by
   obtain⟨b,rfl,hb⟩:=h
   obtain⟨bs,rfl,hp⟩:=gh t
   exact⟨b::bs,rfl,.cons hb hp⟩
noncomputable def byK (ns:List Str) (ts:List Addr):List (Str×V):=(ns.zip ts).map fun x=>(x.1,V.ref x.2)
inductive spBy (K:Ab) (vs:List V) (H:Hp) (Q:VK) (E:XK):Prop
 | mk (l:Addr) (ts:List Addr) (ns:List Str) (h0:vs=[.ref l]) (h1:H l=some (.lst (ts.map V.ref))) (h2:Paired (fun t n=>∃us,H t=some (.tup (.str n::us))) ts ns) (h3:ns.Nodup) (h4:ts.length<=10)
     (q:∀d H',Same H H'->H' d=some (.dK ((byK ns ts).map kk))->Q (.ref d) H'):spBy K vs H Q E
theorem vo {K:Ab}{D:Addr}{H:Hp}:∀{us:List Addr}{zs:List (Str×Addr)},Paired (fun b (x:Str×Addr)=>b≠D/\H b=some (.tup [.str x.1,.ref x.2])) us zs->Paired (fun t (kv:Str×V)=>SqT K H t [.str kv.1,kv.2]) us (zs.map fun x=>(x.1,V.ref x.2))
 | _,_,.nil=>.nil
 | _,_,.cons h r=>.cons (SqT.of h.2) (vo r)
theorem scByNames:FnScope ["program"] ["program"] (au qk):=⟨rfl,rfl,rfl,by decide +kernel,rfl,by decide +kernel,by decide +kernel⟩
theorem a1b (C:Con K mg w) (F:Fun K "by_names" "by_names" qk f fd):FnOk P w K mg base CX0 1 f fd ["program"] (spBy K):=by
 refine F.okQ scByNames (fun vs H Q E h=>?_) (fun cdv A outer s0 H vs Q E hr h=>?_)
 . obtain⟨l,ts,ns,rfl,_⟩:=h;rfl
 obtain⟨l,ts,ns,rfl,hl,hts,hnd,h10,q⟩:=h
 have nd:=scByNames.nd
 refine⟨_,(ai (b5 (be (rl (K:=K) rfl rfl) rfl C.dict BE (bv (kd (gc (qv 0)) (fun _ _ _ _=>om) (fun _ _ _ _=>(cf (az (af (ixTK (K:=K) rfl) (qv 0) ab (fun _ _=>rfl)) (aj (qv 0) a0))))) a0)))),?_⟩
 have hlen:=AD hts
 refine⟨_,rfl,l,rfl,⟨_,SqL.of hl⟩,?_⟩
 refine j9 (ts.map V.ref) (ns.zip ts) (fun D G y (x:Str×Addr)=>∃b,y=V.ref b/\b≠D/\G b=some (.tup [.str x.1,.ref x.2])) id ia (SqL.of hl) (by rw[Ac];omega) (by rw[Ac,EA];omega) (fun D G G' y x z e=>?_) (fun D hD j x r hx hr' H2 e2 hD2 Q' q'=>?_) (fun D H2 ys hD e2 hD2 hpt=>?_)
 . obtain⟨b,rfl,nb,hb⟩:=z
   exact⟨b,rfl,nb,e _ _ hb nb⟩
 . rw[Ak] at hx
   obtain⟨t,ht,rfl⟩:=Be.mp hx
   obtain⟨n,hn,us,hu⟩:=Paired.nth hts ht
   have hr2:r=(n,t):=by
     have:(ns.zip ts)[j]? = some (n,t):=List.getElem?_zip_eq_some.mpr ⟨hn,ht⟩
     rw[hr'] at this;exact Av this
   subst hr2
   refine⟨_,rfl,t,_,0,_,rfl,rfl,SqT.of (e2 _ _ hu),at0,_,rfl,(show 2<=sizeLine by decide),fun b hb=>q' (.ref b) _ (ad hb _) ⟨b,rfl,fun z=>?_,aa⟩⟩
   rw[z] at hb;exact hD2 hb
 rw[Dx] at hpt
 obtain⟨us,rfl,hpp⟩:=gh (R:=fun b (x:Str×Addr)=>b≠D/\H2 b=some (.tup [.str x.1,.ref x.2])) hpt
 have hlz:(ns.zip ts).length=ns.length:=by rw[EA];omega
 have hul:=AD hpp
 refine⟨D,us,byK ns ts,rfl,SqL.of hD2,?_,?_,(by omega),fun d hd=>q d _ (e2.trans (ad hd _)) aa⟩
 . exact vo hpp
 . unfold byK
   rw[Cv]
   show ((ns.zip ts).map (·.1)).Nodup
   rw[List.map_fst_zip (by omega)]
   exact hnd
end K51
namespace L2
open PySem PySem.Spec
open Classical in
noncomputable def rm (X:Addr->Prop) (H:Hp):Hp:=fun c=>if X c then none else H c
variable {X X':Addr->Prop}{H H':Hp}
theorem cb {c:Addr}(h:¬ X c):rm X H c=H c:=by unfold rm;rw[if_neg h]
theorem gq {c:Addr}{o:HO}(h:rm X H c=some o):¬ X c/\H c=some o:=by
 unfold rm at h
 by_cases z:X c
 . rw[if_pos z] at h;cases h
 . rw[if_neg z] at h;exact⟨z,h⟩
theorem ej:Same (rm X H) H:=fun _ _ h=>(gq h).2
theorem cq (e:Same H H'):Same (rm X H) (rm X H'):=fun b o h=>by
 obtain⟨h1,h2⟩:=gq h
 rw[cb h1];exact e _ _ h2
theorem xw {D:Addr}(e:dz D H H') (hD:X D):Same (rm X H) (rm X H'):=fun b o h=>by
 obtain⟨h1,h2⟩:=gq h
 rw[cb h1];exact e _ _ h2 (fun z=>h1 (by rw[z];exact hD))
theorem a4v (h:∀c,X c->X' c):Same (rm X' H) (rm X H):=fun b o z=>by
 obtain⟨h1,h2⟩:=gq z
 rw[cb (fun y=>h1 (h _ y))];exact h2
theorem me {a:Addr}{o:HO}(h:X a):rm X (upd H a o)=rm X H:=by
 funext c
 by_cases z:X c
 . unfold rm;rw[if_pos z,if_pos z]
 . rw[cb z,cb z,ah (fun y=>z (by rw[y];exact h))]
end L2
namespace K51
open PySem PySem.Spec L2 Mir
variable {P:Program}{w:World}{K:Ab}{mg:Str->Option Value}{base:Heap}{f g gS gN gA gW gI gL gF gO gT gB C fI CM CF fJ gD gR gU gH gM gE gC gK gP gX:Addr}{fd gd dS dN dA dW dI dL dF dO dT dB dD dR dU dH dM dE dC dK dP dX:FuncData}
noncomputable abbrev qm:Stmt:=top 16
noncomputable abbrev le:Stmt:=top 17
noncomputable abbrev tm:Stmt:=top 26
inductive spCopy (K:Ab) (bs:List Nat) (vs:List V) (H:Hp) (Q:VK) (E:XK):Prop
 | mk (X:Addr->Prop) (l:Addr) (ds:List Deed) (h0:vs=[.ref l]) (hX:∀c,X c->H c≠none) (h1:ListX K (rm X H) bs l ds) (q:∀l' H',Same H H'->ListX K (rm X H') bs l' ds->Q (.ref l') H'):spCopy K bs vs H Q E
inductive spOwn (K:Ab) (bs:List Nat) (vs:List V) (H:Hp) (Q:VK) (E:XK):Prop
 | mk (X:Addr->Prop) (t:Addr) (d:Deed) (h0:vs=[.ref t]) (hX:∀c,X c->H c≠none) (h1:DeedX K (rm X H) (ListX K (rm X H) bs) t d) (q:∀t' H',Same H H'->DeedX K (rm X H') (ListX K (rm X H') bs) t' d->Q (.ref t') H'):spOwn K bs vs H Q E
inductive spBehind (K:Ab) (vs:List V) (H:Hp) (Q:VK) (E:XK):Prop
 | mk (t:Addr) (ns:List Int) (k:Int) (h0:vs=[.ref t]) (h:SqT K H t ((ns++[k]).map V.int)) (hn:ns.length<=100) (q:∀t' H',Same H H'->SqT K H' t' ((ns++[k+1]).map V.int)->Q (.ref t') H'):spBehind K vs H Q E
theorem scBehind:FnScope ["path"] ["path"] (au tm):=⟨rfl,rfl,rfl,by decide +kernel,rfl,by decide +kernel,by decide +kernel⟩
theorem a4k (C:Con K mg w) (F:Fun K "behind_deed" "behind_deed" tm f fd):FnOk P w K mg base CX0 1 f fd ["path"] (spBehind K):=by
 refine F.okQ scBehind (fun vs H Q E h=>?_) (fun cdv A outer s0 H vs Q E hr h=>?_)
 . obtain⟨t,ns,k,rfl,_⟩:=h;rfl
 obtain⟨t,ns,k,rfl,h,hn,q⟩:=h
 have nd:=scBehind.nd
 refine⟨_,(ai (b5 (ax xf (cj i6 (qv 0) dj (cr (c7 bu ab))) (cf (dq (ax cg (af ay (qv 0) (c7 bu ab) (fun _ _=>rfl)) ab) a0))))),?_⟩
 rw[AB] at h
 refine⟨_,rfl,_,rfl,_,rfl,t,_,rfl,h,fun p1 H1 e1 h1=>?_⟩
 have hc:cutV (ns.map V.int++[k].map V.int) none (some (-1))=ns.map V.int:=a09 _ _ (m:=1) rfl (by decide)
 rw[show cutV (ns.map V.int++[k].map V.int) none (some (-(1:Int)))=ns.map V.int from hc] at h1
 refine⟨_,rfl,_,rfl,t,_,_,_,rfl,rfl,e1.seqT h,bh,_,_,rfl,rfl,(show 1<=sizeLine by decide),fun p2 hp2=>?_⟩
 have s2:=ad hp2 (.tup [.int (k+1)])
 refine⟨p1,p2,_,_,rfl,rfl,s2.seqT h1,SqT.of aa,bn (by rw[Ac];show _+1<=1000;omega),fun p3 H3 e3 h3=>?_⟩
 exact q p3 H3 ((e1.trans s2).trans e3) (by rw[AB];exact h3)
theorem scOwnDeed:FnScope ["deed"] ["deed"] (au qm):=⟨rfl,rfl,rfl,by decide +kernel,rfl,by decide +kernel,by decide +kernel⟩
theorem scOwnDeeds:FnScope ["deeds"] ["deeds"] (au le):=⟨rfl,rfl,rfl,by decide +kernel,rfl,by decide +kernel,by decide +kernel⟩
theorem a4w:FnOk P w K mg base CX0 1 f fd ["deeds"] (spCopy K []) :=
 ⟨fun vs H Q E h=>by obtain⟨X,l,ds,_,_,h1,_⟩:=h;exact h1.elim,fun A outer s H args us vs Q E _ _ _ _ h=>by obtain⟨X,l,ds,_,_,h1,_⟩:=h;exact h1.elim⟩
theorem im {n b:Nat}{bs:List Nat}(hb:b<=900) (C:Con K mg w) (F:Fun K "own_deeds" "own_deeds" le f fd) (GO:FnOk P w K mg base CX0 (n+1) gO dO ["deed"] (spOwn K bs)) (cO:Cal K mg "own_deed" gO dO ["deed"]):FnOk P w K mg base CX0 (n+1+1) f fd ["deeds"] (spCopy K (b::bs)):=by
 refine F.okQ scOwnDeeds (fun vs H Q E h=>?_) (fun cdv A outer s0 H vs Q E hr h=>?_)
 . obtain⟨X,l,ds,rfl,_⟩:=h;rfl
 obtain⟨X,l,ds,rfl,hX,⟨ts,hl,hp,hlen⟩,q⟩:=h
 have nd:=scOwnDeeds.nd
 refine⟨_,(ai (b5 (kd (gc (qv 0)) (fun _ _ _ _=>om) (fun _ _ _ _=>(aq GO hr rfl cO.name cO.keep cO.bind .nil ap (aj (qv 0) a0)))))),?_⟩
 have hpl:=AD hp
 refine⟨_,rfl,l,rfl,⟨_,SqL.of (ej _ _ hl)⟩,?_⟩
 refine j9 (ts.map V.ref) ds (fun D G y d=>∃t',y=V.ref t'/\DeedX K (rm (fun c=>X c\/c=D) G) (ListX K (rm (fun c=>X c\/c=D) G) bs) t' d) id ia (SqL.of (ej _ _ hl)) (by rw[Ac];omega) (by rw[Ac,hpl]) (fun D G G' y d z e=>?_) (fun D hD j x d hx hd H2 e2 hD2 Q' q'=>?_) (fun D H2 ys hD e2 hD2 hpt=>?_)
 . obtain⟨t',rfl,h⟩:=z
   have g:Same (rm (fun c=>X c\/c=D) G) (rm (fun c=>X c\/c=D) G'):=xw e (.inr rfl)
   exact⟨t',rfl,h.same g fun _ _ y=>y.same g⟩
 . rw[Ak] at hx
   obtain⟨t,ht,rfl⟩:=Be.mp hx
   obtain⟨d',hd',hX2⟩:=Paired.nth hp ht
   rw[hd] at hd';cases hd'
   have g:Same (rm X H) (rm (fun c=>X c\/c=D) H2):=fun b o h=>by
     obtain⟨h1,h2⟩:=gq h
     rw[cb (fun z=>z.elim h1 (ao h2 hD))];exact e2 _ _ h2
   refine⟨_,rfl,(fun c=>X c\/c=D),t,d,rfl,fun c z y=>?_,hX2.same g fun _ _ y=>y.same g,fun t' H3 e3 h3=>q' (.ref t') H3 e3 ⟨t',rfl,h3⟩⟩
   rcases z with z|z
   . cases qc:H c with
     | none=>exact hX c z qc
     | some o=>rw[e2 _ _ qc] at y;cases y
   . rw[z] at y;exact hD2 y
 rw[Dx] at hpt
 obtain⟨us,rfl,hpp⟩:=gh hpt
 have hsub:Same (rm (fun c=>X c\/c=D) H2) (rm X H2):=a4v fun c z=>.inl z
 exact q D H2 e2 ⟨us,by rw[cb (fun z=>hX D z hD)];exact hD2,Paired.mapP hpp fun _ _ z=>z.same hsub fun _ _ y=>y.same hsub,by rw[AD hpp,<- hpl];exact hlen⟩
theorem jg {n:Nat}{bs:List Nat}(C:Con K mg w) (F:Fun K "own_deed" "own_deed" qm f fd) (GS:FnOk P w K mg base CX0 (n+1) gS dS ["deeds"] (spCopy K bs)) (cS:Cal K mg "own_deeds" gS dS ["deeds"]):FnOk P w K mg base CX0 (n+1+1) f fd ["deed"] (spOwn K bs):=by
 refine F.okQ scOwnDeed (fun vs H Q E h=>?_) (fun cdv A outer s0 H vs Q E hr h=>?_)
 . obtain⟨X,t,d,rfl,_⟩:=h;rfl
 obtain⟨X,t,d,rfl,hX,hd,q⟩:=h
 have nd:=scOwnDeed.nd
 have hXX:∀{H':Hp},Same H H'->∀c,X c->H' c≠none:=fun {H'} e' c z y=>by
   cases qc:H c with
   | none=>exact hX c z qc
   | some o=>rw[e' _ _ qc] at y;cases y
 refine⟨_,ae (bg (aw bb (af ay (qv 0) ab (fun _ _=>rfl)) b6 (av _)) (ai (b5 (ax oa (cj r9 (qv 0) dj (cr ab)) (cf (bi (aq GS hr rfl cS.name cS.keep cS.bind .nil ap (az (af ay (qv 0) ab (fun _ _=>rfl)) a0)) (bi (aq GS hr rfl cS.name cS.keep cS.bind .nil ap (az (af ay (qv 0) ab (fun _ _=>rfl)) a0)) a0)))))) bq)
   (ae (bg (aw bb (af ay (qv 0) ab (fun _ _=>rfl)) b6 (av _)) (ai (b5 (ax oa (cj r9 (qv 0) dj (cr ab)) (cf (jv (bi (be dr rfl C.list Bv (az (af ay (af ay (qv 0) ab (fun _ _=>rfl)) ab (fun _ _=>rfl)) a0)) (bi (be dr rfl C.list Bv (az (af ay (af ay (qv 0) ab (fun _ _=>rfl)) ab (fun _ _=>rfl)) a0)) a0)) (bi (aq GS hr rfl cS.name cS.keep cS.bind .nil ap (az (af ay (qv 0) ab (fun _ _=>rfl)) a0)) a0)))))) bq)
   (ai (b5 (qv 0)))),?_⟩
 have nw:∀{H':Hp} {p:Addr},Same H H'->H' p=none->¬ X p:=fun e' hp z=>hXX e' _ z hp
 cases hd with
 | plain p h1 h2 =>
   obtain⟨w,vs,hw,n1,n2⟩:=yw h1 h2
   have hw':=ej _ _ hw
   refine⟨_,rfl,t,_,0,_,rfl,rfl,SqT.of hw',at0,rfl,_,rfl,iteB (fun c=>absurd (V.str.inj (of_decide_eq_true c)) n1) (fun _=>?_)⟩
   refine⟨_,rfl,t,_,0,_,rfl,rfl,SqT.of hw',at0,rfl,_,rfl,iteB (fun c=>absurd (V.str.inj (of_decide_eq_true c)) n2) (fun _=>?_)⟩
   exact⟨_,rfl,q t H (Same.refl _) (.plain p h1 h2)⟩
 | cond c i' o r a b' h hc okr hi' ho =>
   have h':=ej _ _ h
   refine⟨_,rfl,t,_,0,_,rfl,rfl,SqT.of h',rfl,rfl,_,rfl,iteB (fun _=>?_) (fun c=>absurd c (by decide +kernel))⟩
   refine⟨_,rfl,_,rfl,t,_,rfl,SqT.of h',(fun z=>absurd z.2 (show ¬ (2:Nat)=4 by decide)),fun p1 hp1=>?_⟩
   have s1:=ad hp1 (.tup [.str "if",.ref c])
   have k1:(upd H p1 (.tup [.str "if",.ref c])) p1=some (.tup [.str "if",.ref c]):=aa
   change tTup _ _ (upd H p1 (.tup [.str "if",.ref c])) _
   generalize upd H p1 (.tup [.str "if",.ref c])=H1 at s1 k1 |-
   refine⟨_,rfl,t,_,2,_,rfl,rfl,SqT.of (s1 _ _ h'),rfl,X,i',a,rfl,hXX s1,hi'.same (cq s1),fun l1 H3 e3' hl3=>?_⟩
   have e3:=s1.trans e3'
   refine⟨_,rfl,t,_,3,_,rfl,rfl,SqT.of (e3 _ _ h'),rfl,X,o,b',rfl,hXX e3,ho.same (cq e3),fun l2 H4 e4' hl4=>?_⟩
   have e4:=e3.trans e4'
   refine⟨(show 2<=sizeLine by decide),fun p2 hp2=>?_⟩
   have s5:=ad hp2 (.tup [.ref l1,.ref l2])
   have k5:(upd H4 p2 (.tup [.ref l1,.ref l2])) p2=some (.tup [.ref l1,.ref l2]):=aa
   generalize upd H4 p2 (.tup [.ref l1,.ref l2])=H5 at s5 k5 |-
   have e5:=e4.trans s5
   refine⟨p1,p2,_,_,rfl,rfl,SqT.of (s5 _ _ (e4' _ _ (e3' _ _ k1))),SqT.of k5,(by simp),(show 4<=sizeLine by decide),(fun z=>by cases z),fun _ nt hnt=>?_⟩
   have s6:=ad hnt (.tup [.str "if",.ref c,.ref l1,.ref l2])
   have k6:(upd H5 nt (.tup [.str "if",.ref c,.ref l1,.ref l2])) nt=some (.tup [.str "if",.ref c,.ref l1,.ref l2]):=aa
   have nn:=nw e5 hnt
   have e6:=e5.trans s6
   exact q nt _ e6 (.cond c l1 l2 r a b' (by rw[cb nn];exact k6) (cq e6 _ _ hc) okr (hl3.same (cq ((e4'.trans s5).trans s6))) (hl4.same (cq (s5.trans s6))))
 | loop c td i' fa pa r F' P' a h hc okr htd hF hP okF okP lF lP hi' =>
   have h':=ej _ _ h
   have htd':=ej _ _ htd
   refine⟨_,rfl,t,_,0,_,rfl,rfl,SqT.of h',rfl,rfl,_,rfl,iteB (fun c=>absurd c (by decide +kernel)) (fun _=>?_)⟩
   refine⟨_,rfl,t,_,0,_,rfl,rfl,SqT.of h',rfl,rfl,_,rfl,iteB (fun _=>?_) (fun c=>absurd c (by decide +kernel))⟩
   obtain⟨as1,hF1,hF2⟩:=hF
   obtain⟨as2,hP1,hP2⟩:=hP
   refine⟨_,rfl,_,rfl,t,_,rfl,SqT.of h',(fun z=>absurd z.2 (show ¬ (2:Nat)=4 by decide)),fun p1 hp1=>?_⟩
   have s1:=ad hp1 (.tup [.str "while",.ref c])
   have k1:(upd H p1 (.tup [.str "while",.ref c])) p1=some (.tup [.str "while",.ref c]):=aa
   change tTup _ _ (upd H p1 (.tup [.str "while",.ref c])) _
   generalize upd H p1 (.tup [.str "while",.ref c])=H1 at s1 k1 |-
   refine⟨_,rfl,t,_,2,_,rfl,rfl,SqT.of (s1 _ _ h'),rfl,td,_,0,_,rfl,rfl,SqT.of (s1 _ _ htd'),rfl,fa,_,rfl,.inl (SqL.of (s1 _ _ (ej _ _ hF1))),fun n1 hn1=>?_⟩
   have s2':=ad hn1 (.lst (as1.map V.ref))
   have k2:(upd H1 n1 (.lst (as1.map V.ref))) n1=some (.lst (as1.map V.ref)):=aa
   have nn1:=nw s1 hn1
   generalize upd H1 n1 (.lst (as1.map V.ref))=H2 at s2' k2 |-
   have s2:=s1.trans s2'
   refine⟨_,rfl,t,_,2,_,rfl,rfl,SqT.of (s2 _ _ h'),rfl,td,_,1,_,rfl,rfl,SqT.of (s2 _ _ htd'),rfl,pa,_,rfl,.inl (SqL.of (s2 _ _ (ej _ _ hP1))),fun n2 hn2=>?_⟩
   have s3':=ad hn2 (.lst (as2.map V.ref))
   have k3:(upd H2 n2 (.lst (as2.map V.ref))) n2=some (.lst (as2.map V.ref)):=aa
   have nn2:=nw s2 hn2
   generalize upd H2 n2 (.lst (as2.map V.ref))=H3 at s3' k3 |-
   have s3:=s2.trans s3'
   refine⟨(show 2<=sizeLine by decide),fun tt htt=>?_⟩
   have s4':=ad htt (.tup [.ref n1,.ref n2])
   have k4:(upd H3 tt (.tup [.ref n1,.ref n2])) tt=some (.tup [.ref n1,.ref n2]):=aa
   have nn3:=nw s3 htt
   generalize upd H3 tt (.tup [.ref n1,.ref n2])=H4 at s4' k4 |-
   have s4:=s3.trans s4'
   refine⟨_,rfl,t,_,3,_,rfl,rfl,SqT.of (s4 _ _ h'),rfl,X,i',a,rfl,hXX s4,hi'.same (cq s4),fun l1 H5 e5' hl5=>?_⟩
   have e5:=s4.trans e5'
   refine⟨(show 2<=sizeLine by decide),fun p2 hp2=>?_⟩
   have s6':=ad hp2 (.tup [.ref tt,.ref l1])
   have k6:(upd H5 p2 (.tup [.ref tt,.ref l1])) p2=some (.tup [.ref tt,.ref l1]):=aa
   generalize upd H5 p2 (.tup [.ref tt,.ref l1])=H6 at s6' k6 |-
   have e6:=e5.trans s6'
   have f5:=e5'.trans s6'
   have f4:=s4'.trans f5
   have f3:=s3'.trans f4
   have f2:=s2'.trans f3
   refine⟨p1,p2,_,_,rfl,rfl,SqT.of (f2 _ _ k1),SqT.of k6,(by simp),(show 4<=sizeLine by decide),(fun z=>by cases z),fun _ nt hnt=>?_⟩
   have s7:=ad hnt (.tup [.str "while",.ref c,.ref tt,.ref l1])
   have k7:(upd H6 nt (.tup [.str "while",.ref c,.ref tt,.ref l1])) nt=some (.tup [.str "while",.ref c,.ref tt,.ref l1]):=aa
   have nn:=nw e6 hnt
   have e7:=e6.trans s7
   exact q nt _ e7 (.loop c tt l1 n1 n2 r F' P' a (by rw[cb nn];exact k7) (cq e7 _ _ hc) okr (by rw[cb nn3];exact s7 _ _ (f5 _ _ k4)) ⟨as1,by rw[cb nn1];exact s7 _ _ (f3 _ _ k2),Paired.mapP hF2 fun _ _ z=>RowAt.same z (cq e7)⟩ ⟨as2,by rw[cb nn2];exact s7 _ _ (f4 _ _ k3),Paired.mapP hP2 fun _ _ z=>RowAt.same z (cq e7)⟩ okF okP lF lP (hl5.same (cq (s6'.trans s7))))
theorem fe {H:Hp}{l:Addr}{as bs:List Addr}(h1:H l=some (.lst (as.map V.ref))) (h2:H l=some (.lst (bs.map V.ref))):as=bs:=by
 rw[h1] at h2
 exact (List.map_inj_right (f:=V.ref) (fun x y z=>by injection z)).mp (HO.lst.inj (Av h2))
noncomputable abbrev qa:Stmt:=top 27
inductive LEnd (H:Hp) (bd:Addr):Pre->Addr->Pre×Nat->Option Addr->Prop
 | top (ts:List Addr) (h:H bd=some (.lst (ts.map V.ref))):LEnd H bd [] bd ([],ts.length) none
 | last (p:Pre) (l:Addr) (ts:List Addr) (k s:Nat) (t i o m:Addr) (c:V) (due:Pre×Nat) (e:Option Addr) (hl:LEnd H bd p l due e) (h:H l=some (.lst (ts.map V.ref))) (hk:ts[k]? = some t) (ht:H t=some (.tup [.str "if",c,.ref i,.ref o])) (hs:(s=0/\m=i)\/(s=1/\m=o)) (hn:k+1=ts.length):LEnd H bd (p++[(k,s)]) m due e
 | next (p:Pre) (l:Addr) (ts:List Addr) (k s:Nat) (t i o m t':Addr) (c:V) (due:Pre×Nat) (e:Option Addr) (hl:LEnd H bd p l due e) (h:H l=some (.lst (ts.map V.ref))) (hk:ts[k]? = some t) (ht:H t=some (.tup [.str "if",c,.ref i,.ref o])) (hs:(s=0/\m=i)\/(s=1/\m=o)) (hn:ts[k+1]? = some t'):LEnd H bd (p++[(k,s)]) m (p,k+1) (some t')
 | loop (p:Pre) (l:Addr) (ts:List Addr) (k:Nat) (t m:Addr) (c d:V) (due:Pre×Nat) (e:Option Addr) (hl:LEnd H bd p l due e) (h:H l=some (.lst (ts.map V.ref))) (hk:ts[k]? = some t) (ht:H t=some (.tup [.str "while",c,d,.ref m])):LEnd H bd (p++[(k,0)]) m (p,k) (some t)
section
variable {H H':Hp}{bd:Addr}
theorem LEnd.from {p:Pre}{l:Addr}{due:Pre×Nat}{e:Option Addr}(h:LEnd H bd p l due e):LFrom H bd p l:=by
 induction h with
 | top ts h=>rfl
 | last p l ts k s t i o m c due e hl h hk ht hs hn ih=>exact ih.app ⟨ts,t,m,h,hk,.cond i o c ht hs,rfl⟩
 | next p l ts k s t i o m t' c due e hl h hk ht hs hn ih=>exact ih.app ⟨ts,t,m,h,hk,.cond i o c ht hs,rfl⟩
 | loop p l ts k t m c d due e hl h hk ht ih=>exact ih.app ⟨ts,t,m,h,hk,.loop c d ht rfl,rfl⟩
theorem LEnd.same {p:Pre}{l:Addr}{due:Pre×Nat}{e:Option Addr}(h:LEnd H bd p l due e) (g:Same H H'):LEnd H' bd p l due e:=by
 induction h with
 | top ts h=>exact .top ts (g _ _ h)
 | last p l ts k s t i o m c due e hl h hk ht hs hn ih=>exact .last p l ts k s t i o m c due e ih (g _ _ h) hk (g _ _ ht) hs hn
 | next p l ts k s t i o m t' c due e hl h hk ht hs hn ih=>exact .next p l ts k s t i o m t' c due e ih (g _ _ h) hk (g _ _ ht) hs hn
 | loop p l ts k t m c d due e hl h hk ht ih=>exact .loop p l ts k t m c d due e ih (g _ _ h) hk (g _ _ ht)
inductive Stands (H:Hp) (bd:Addr) (p:Pre) (k:Nat) (due:Pre×Nat) (e:Option Addr):Prop
 | own (l t:Addr) (ts:List Addr) (hl:LFrom H bd p l) (h:H l=some (.lst (ts.map V.ref))) (hk:ts[k]? = some t) (hd:due=(p,k)) (he:e=some t)
 | fin (l:Addr) (ts:List Addr) (hl:LEnd H bd p l due e) (h:H l=some (.lst (ts.map V.ref))) (hk:k=ts.length)
theorem Stands.same {p:Pre}{k:Nat}{due:Pre×Nat}{e:Option Addr}(h:Stands H bd p k due e) (g:Same H H'):Stands H' bd p k due e:=by
 rcases h with⟨l,t,ts,hl,h,hk,hd,he⟩|⟨l,ts,hl,h,hk⟩
 . exact .own l t ts (hl.same g) (g _ _ h) hk hd he
 . exact .fin l ts (hl.same g) (g _ _ h) hk
theorem LEnd.zero {p:Pre}{l:Addr}{due:Pre×Nat}{e:Option Addr}(h:LEnd H bd p l due e) (hp:p=[]):∃ts:List Addr,l=bd/\H bd=some (.lst (ts.map V.ref))/\due=([],ts.length)/\e=none:=by
 cases h with
 | top ts h=>exact⟨ts,rfl,h,rfl,rfl⟩
 | last p l ts k s t i o m c due e hl h hk ht hs hn=>simp at hp
 | next p l ts k s t i o m t' c due e hl h hk ht hs hn=>simp at hp
 | loop p l ts k t m c d due e hl h hk ht=>simp at hp
theorem LEnd.up {p:Pre}{l:Addr}{due:Pre×Nat}{e:Option Addr}(h:LEnd H bd p l due e) (hp:p≠[]):∃(p':Pre) (k' s':Nat) (l' t:Addr) (ts:List Addr),p=p'++[(k',s')]/\LFrom H bd p' l'/\H l'=some (.lst (ts.map V.ref))/\ts[k']? = some t/\((∃c i o,H t=some (.tup [.str "if",c,.ref i,.ref o])/\Stands H bd p' (k'+1) due e)\/∃c d i,H t=some (.tup [.str "while",c,d,.ref i])/\Stands H bd p' k' due e):=by
 cases h with
 | top ts h=>exact absurd rfl hp
 | last p l ts k s t i o m c due e hl h hk ht hs hn=>exact⟨p,k,s,_,t,ts,rfl,hl.from,h,hk,.inl ⟨c,i,o,ht,.fin _ ts hl h hn⟩⟩
 | next p l ts k s t i o m t' c due e hl h hk ht hs hn=>exact⟨p,k,s,_,t,ts,rfl,hl.from,h,hk,.inl ⟨c,i,o,ht,.own _ t' ts hl.from h hn rfl rfl⟩⟩
 | loop p l ts k t m c d due e hl h hk ht=>exact⟨p,k,0,_,t,ts,rfl,hl.from,h,hk,.inr ⟨c,d,_,ht,.own _ t ts hl.from h hk rfl rfl⟩⟩
end
inductive spSettled (K:Ab) (vs:List V) (H:Hp) (Q:VK) (E:XK):Prop
 | mk (bd pt:Addr) (p:Pre) (k:Nat) (due:Pre×Nat) (e:Option Addr) (h0:vs=[.ref bd,.ref pt]) (h1:SqT K H pt ((flat p++[(k:Int)]).map V.int)) (h2:Stands H bd p k due e) (h3:p.length<=40) (q:∀pt' H',Same H H'->SqT K H' pt' ((flat due.1++[(due.2:Int)]).map V.int)->Q (.ref pt') H'):spSettled K vs H Q E
inductive SW (K:Ab) (H:Hp) (bd:Addr) (due:Pre×Nat) (e:Option Addr) (m:Nat) (σ:St) (H1:Hp):Prop
 | mk (pt:Addr) (p:Pre) (k:Nat) (e1:Same H H1) (h1:SqT K H1 pt ((flat p++[(k:Int)]).map V.int)) (h2:Stands H1 bd p k due e) (hm:p.length=m) (h3:m<=40) (hσ:σ=[some (.ref bd),some (.ref pt)])
theorem scSettled:FnScope ["body","path"] ["body","path"] (au qa):=⟨rfl,rfl,rfl,by decide +kernel,rfl,by decide +kernel,by decide +kernel⟩
theorem a0d (C:Con K mg w) (F:Fun K "settled" "settled" qa f fd) (GL:FnOk P w K mg base CX0 2 gL dL ["body","path"] (spListOf K)) (cL:Cal K mg "list_of" gL dL ["body","path"]) (GF:FnOk P w K mg base CX0 3 gF dF ["body","path"] (spFound K)) (cF:Cal K mg "found_at" gF dF ["body","path"]) (GB:FnOk P w K mg base CX0 1 gB dB ["path"] (spBehind K)) (cB:Cal K mg "behind_deed" gB dB ["path"]):FnOk P w K mg base CX0 4 f fd ["body","path"] (spSettled K):=by
 refine F.okQ scSettled (fun vs H Q E h=>?_) (fun cdv A outer s0 H vs Q E hr h=>?_)
 . obtain⟨bd,pt,p,k,due,e,rfl,_⟩:=h;rfl
 obtain⟨bd,pt,p,k,due,e,rfl,hpt,hst,hp,q⟩:=h
 have nd:=scSettled.nd
 have hr1:=hr.mono (j:=1) (by omega)
 have hr2:=hr.mono (j:=2) (by omega)
 refine⟨_,ae (i3 AH (QW.qt (gu (aw mx (bf du rfl C.len AM (aj (qv 1) a0)) ab (av _)) (g8 (aw bb (af ay (qv 1) (c7 bu ab) (fun _ _=>rfl)) (bf du rfl C.len AM (bi (aq GL hr2 rfl cL.name cL.keep cL.bind .nil ap (aj (qv 0) (aj (qv 1) a0))) a0)) (av _))))) (ae (ar (i:=1) nd rfl (Or.inl rfl) (cj i6 (qv 1) dj (cr (c7 bu ab))))
   (ai (bg (aw bb (af ay (aq GF hr rfl cF.name cF.keep cF.bind .nil ap (aj (qv 0) (aj (qv 1) a0))) ab (fun _ _=>rfl)) b6 (av _)) (ai (ar (i:=1) nd rfl (Or.inl rfl) (aq GB hr1 rfl cB.name cB.keep cB.bind .nil ap (aj (qv 1) a0)))) bq))))
   (ai (b5 (qv 1))),?_⟩
 refine ak (a:=qq _ _) fun D1 hN1 hR1 hC1=>?_
 refine⟨SW K H bd due e,⟨p.length,pt,p,k,Same.refl _,hpt,hst,rfl,hp,rfl⟩,?_⟩
 rintro m σ H1 ⟨pt,p,k,e1,h1,h2,rfl,h3,rfl⟩
 have hlen:(((flat p++[(k:Int)]).map V.int).length:Int)=2*(p.length:Int)+1:=by rw[Ac,Ag,cm];simp
 have out:∀H2,Same H1 H2->due=(p,k)->D1.nx [some (.ref bd),some (.ref pt)] H2:=fun H2 e2 hd=>by
   refine hN1 _ _ ⟨_,rfl,?_⟩
   subst hd
   exact q pt H2 (e1.trans e2) (e2.seqT h1)
 refine⟨_,rfl,pt,_,rfl,.inr h1,_,_,rfl,rfl,_,rfl,iteB (fun c1=>?_) (fun c1=>?_)⟩
 . have c1':(1:Int)<(((flat p++[(k:Int)]).map V.int).length:Int):=of_decide_eq_true c1
   have hp0:p≠[]:=fun z=>by rw[hlen,z] at c1';exact absurd c1' (by decide)
   obtain⟨l,ts,hl,hts,hk⟩:∃(l:Addr) (ts:List Addr),LFrom H1 bd p l/\H1 l=some (.lst (ts.map V.ref))/\((k<ts.length/\due=(p,k))\/(k=ts.length/\LEnd H1 bd p l due e)):=by
     rcases h2 with⟨l,t,ts,hl,h,hk,hd,he⟩|⟨l,ts,hl,h,hk⟩
     . exact⟨l,ts,hl,h,.inl ⟨(Aq.mp hk).1,hd⟩⟩
     . exact⟨l,ts,hl.from,h,.inr ⟨hk,hl⟩⟩
   have h1':=h1
   rw[AB] at h1'
   refine⟨_,rfl,_,rfl,pt,_,_,_,rfl,rfl,h1',bh,_,rfl,_,rfl,bd,pt,l,p,k,rfl,h1,hl,(by omega),fun H2 e2=>⟨l,_,rfl,.inl (SqL.of (e2 _ _ hts)),rfl,_,rfl,iteB (fun c2=>?_) (fun c2=>?_)⟩⟩
   . have hkl:k=ts.length:=by
       have:=V.int.inj (of_decide_eq_true c2)
       rw[Ac] at this;omega
     have hE:LEnd H1 bd p l due e:=by
       rcases hk with⟨z,_⟩|⟨_,z⟩
       . omega
       . exact z
     obtain⟨p',k',s',l',t,ts',rfl,hl',hts',hkt,hor⟩:=hE.up hp0
     refine⟨fun σ' H'=>∃m',m'<(p'++[(k',s')]).length/\SW K H bd due e m' σ' H',fun _ _ z=>z,?_⟩
     have hpl:(p'++[(k',s')]).length=p'.length+1:=by rw[Ag];rfl
     have hcut:cutV ((flat (p'++[(k',s')])++[(k:Int)]).map V.int) none (some (-(2:Int)))=(flat p'++[(k':Int)]).map V.int:=by
       rw[gy,show (flat p'++flat [(k',s')]++[(k:Int)])=(flat p'++[(k':Int)])++[(s':Int),(k:Int)] by simp[flat],AB]
       exact a09 _ _ (m:=2) rfl (by decide)
     refine⟨_,rfl,_,rfl,_,rfl,pt,_,rfl,e2.seqT h1,fun p1 H3 e3 h3'=>?_⟩
     rw[hcut] at h3'
     have e13:=e2.trans e3
     refine⟨_,rfl,_,rfl,bd,p1,l',p',k',ts',rfl,h3',hl'.same e13,(by omega),e13 _ _ hts',fun t2 H4 ht2 e4=>?_,fun H4 hn e4=>by rw[hkt] at hn;cases hn⟩
     rw[hkt] at ht2;cases ht2
     have e14:=e13.trans e4
     rcases hor with⟨c,i,o,ht,hS⟩|⟨c,d,i,ht,hS⟩
     . refine⟨t,_,0,_,rfl,rfl,SqT.of (e14 _ _ ht),rfl,rfl,_,rfl,iteB (fun _=>?_) (fun c=>absurd c (by decide +kernel))⟩
       refine⟨_,rfl,p1,flat p',(k':Int),rfl,e4.seqT h3',by rw[cm];omega,fun p2 H5 e5 h5=>?_⟩
       exact⟨p'.length,by omega,p2,p',k'+1,(e1.trans e14).trans e5,by rw[show ((k'+1:Nat):Int)=(k':Int)+1 by omega];exact h5,hS.same (e14.trans e5),rfl,by omega,rfl⟩
     . refine⟨t,_,0,_,rfl,rfl,SqT.of (e14 _ _ ht),rfl,rfl,_,rfl,iteB (fun c=>absurd c (by decide +kernel)) (fun _=>?_)⟩
       exact⟨p'.length,by omega,p1,p',k',e1.trans e14,e4.seqT h3',hS.same e14,rfl,by omega,rfl⟩
   . have hkl:¬ k=ts.length:=fun z=>of_decide_eq_false c2 (by rw[z,Ac])
     rcases hk with⟨_,z⟩|⟨z,_⟩
     . exact out H2 e2 z
     . exact absurd z hkl
 . have c1':¬ (1:Int)<(((flat p++[(k:Int)]).map V.int).length:Int):=of_decide_eq_false c1
   have hp0:p=[]:=AY (by omega)
   refine (if_neg Af).mpr (out H1 (Same.refl _) ?_)
   rcases h2 with⟨l,t,ts,hl,h,hk,hd,he⟩|⟨l,ts,hl,h,hk⟩
   . exact hd
   . obtain⟨ts',rfl,h',rfl,_⟩:=hl.zero hp0
     rw[fe h h'] at hk
     rw[hp0,hk]
noncomputable abbrev wp:Stmt:=top 9
noncomputable abbrev ky:Stmt:=top 18
noncomputable def places:List (Str×V):=[("read",.int 2),("write",.int 1),("free",.int 1)]
inductive spNumOf (vs:List V) (H:Hp) (Q:VK) (E:XK):Prop
 | nil (d:Addr) (h0:vs=[.ref d,.str "nil"]) (q:Q (.int 0) H):spNumOf vs H Q E
 | name (d:Addr) (kvs:List (Key×V)) (x:Str) (v:V) (h0:vs=[.ref d,.str x]) (hx:x ≠ "nil") (h1:H d=some (.dK kvs)) (h2:valV kvs (Sum.inr x)=some v) (q:Q v H):spNumOf vs H Q E
inductive spCellName (K:Ab) (vs:List V) (H:Hp) (Q:VK) (E:XK):Prop
 | none (t:Addr) (w:Str) (us:List V) (h0:vs=[.ref t]) (h1:SqT K H t (.str w::us)) (h2:places.lookup w=none) (q:Q .non H):spCellName K vs H Q E
 | some (t:Addr) (w:Str) (us:List V) (k:Nat) (v:V) (h0:vs=[.ref t]) (h1:SqT K H t (.str w::us)) (h2:places.lookup w=some (.int (k:Int))) (h3:(V.str w::us)[k]? = some v) (q:Q v H):spCellName K vs H Q E
theorem scNumOf:FnScope ["values","word"] ["values","word"] (au wp):=⟨rfl,rfl,rfl,by decide +kernel,rfl,by decide +kernel,by decide +kernel⟩
theorem a56 (C:Con K mg w) (F:Fun K "number_of" "number_of" wp f fd):FnOk P w K mg base CX0 1 f fd ["values","word"] spNumOf:=by
 refine F.okQ scNumOf (fun vs H Q E h=>?_) (fun cdv A outer s0 H vs Q E hr h=>?_)
 . rcases h with⟨_,rfl,_⟩|⟨_,_,_,_,rfl,_⟩<;>rfl
 have nd:=scNumOf.nd
 have hu1:=dn hr
 refine⟨_,(ai (b5 (gj (aw bb (qv 1) b6 (av _)) ab (fj hu1 (qv 0) (qv 1) (fun _ _=>rfl))))),?_⟩
 rcases h with⟨d,rfl,q⟩|⟨d,kvs,x,v,rfl,hx,h1,h2,q⟩
 . exact⟨_,rfl,rfl,_,rfl,iteB (fun _=>q) (fun c=>absurd c (by simp))⟩
 . refine⟨_,rfl,rfl,_,rfl,iteB (fun c=>absurd (V.str.inj (of_decide_eq_true c)) hx) (fun _=>?_)⟩
   have hg:=DGet.k (k:=Sum.inr x) h1
   rw[h2] at hg
   exact⟨_,rfl,_,rfl,d,v,rfl,hg,q⟩
theorem scCellName:FnScope ["deed","place"] ["deed"] (au ky):=⟨rfl,rfl,rfl,by decide +kernel,rfl,by decide +kernel,by decide +kernel⟩
theorem yn (C:Con K mg w) (F:Fun K "cell_name" "cell_name" ky f fd):FnOk P w K mg base CX0 1 f fd ["deed"] (spCellName K):=by
 refine F.okQ scCellName (fun vs H Q E h=>?_) (fun cdv A outer s0 H vs Q E hr h=>?_)
 . rcases h with⟨_,_,_,rfl,_⟩|⟨_,_,_,_,_,rfl,_⟩<;>rfl
 have nd:=scCellName.nd
 obtain⟨aP,gP,kP⟩:=C.places
 refine⟨_,ae (ar (i:=1) nd rfl (Or.inl rfl) (a8t (qe_g gP) (az (af ay (qv 0) ab (fun _ _=>rfl)) a0)))
   (ai (b5 (gj (aw wt (qv 1) gw (av _)) gw (af ay (qv 0) (qv 1) (fun _ _=>rfl))))),?_⟩
 rcases h with⟨t,w',us,rfl,h1,h2,q⟩|⟨t,w',us,k,v,rfl,h1,h2,h3,q⟩
 . have h2':([("read",.int 2),("write",.int 1),("free",.int 1)]:List (Str×V)).lookup w'=Option.none:=h2
   refine⟨aP,_,rfl,kP,_,rfl,t,_,0,_,rfl,rfl,h1,at0,w',rfl,?_⟩
   rw[h2']
   exact⟨_,rfl,rfl,_,rfl,iteB (fun _=>q) (fun c=>absurd c (by simp))⟩
 . have h2':([("read",.int 2),("write",.int 1),("free",.int 1)]:List (Str×V)).lookup w'=Option.some (.int (k:Int)):=h2
   refine⟨aP,_,rfl,kP,_,rfl,t,_,0,_,rfl,rfl,h1,at0,w',rfl,?_⟩
   rw[h2']
   exact⟨_,rfl,rfl,_,rfl,iteB (fun c=>absurd c (by simp)) (fun _=>⟨_,rfl,_,rfl,t,_,_,_,rfl,rfl,h1,c8 h3,q⟩)⟩
theorem b7 {X:Cx}{K:Ab}{e:Expr}{fl:Str}{pos:Pos}{ta:TE}(h:X.K=K) (he:QE X e ta) (hb:attributeBase e fl X.env (eval e X.env)=eval e X.env:=by rfl):QE X (.Attribute e fl pos) (tFld K ta fl):=by subst h;exact a9v he hb
theorem ee {X:Cx}{K:Ab}{o value:Expr}{fl:Str}{pos pos':Pos}{ta tv:TE}(h:X.K=K) (ha:QE X o ta) (hv:QE X value tv) (hs:swapsWith value (some (.Attribute o fl pos')) pos.line X.env=pure false:=by rfl):QS X (.Assign [.Attribute o fl pos'] value pos) (sFld K ta tv fl):=by subst h;exact aae ha hv hs
noncomputable abbrev y6:Stmt:=dh (top 29) 0
noncomputable abbrev y9:Stmt:=dh (top 29) 1
noncomputable abbrev vj:Stmt:=dh (top 29) 2
noncomputable abbrev a0h:Stmt:=dh (top 29) 3
structure TxF (K:Ab) (mg:Str->Option Value) (C fI:Addr):Prop where
 cl:Cls K C
 nP:NoAttr K C "procedure"
 nA:NoAttr K C "path"
 nN:NoAttr K C "numbers"
 nR:NoAttr K C "receiver"
 mgC:mg "Frame" = some (.ref C)
 mkC:Mk K C fI
structure MCal (K:Ab) (C:Addr) (m:Str) (f:Addr) (fd:FuncData) (ps:List Str):Prop where
 meth:Meth K C m f
 bind:Binds K fd ps []
structure FFs (fs:List (Str×V)) (pr pt nd:Addr) (rc:Str):Prop where
 procedure:fs.lookup ("procedure" : Str)=some (.ref pr)
 path:fs.lookup ("path" : Str)=some (.ref pt)
 numbers:fs.lookup ("numbers" : Str)=some (.ref nd)
 receiver:fs.lookup ("receiver" : Str)=some (.str rc)
 len:fs.length<100
 meth:∀m∈([("deed" : Str),"move","number"]:List Str),fs.lookup m=none
theorem a8z:∀m∈([("deed" : Str),"move","number"]:List Str),m≠("path" : Str):=by decide +kernel
theorem a8k:("procedure" : Str) ≠ "path" /\ ("numbers" : Str) ≠ "path" /\ ("receiver" : Str) ≠ "path" := by decide +kernel
theorem FFs.path' {fs:List (Str×V)}{pr pt nd:Addr}{rc:Str}(h:FFs fs pr pt nd rc) (hl:fs.length<50) (q:Addr):FFs (putF "path" (.ref q) fs) pr q nd rc:=by
 obtain⟨n1,n2,n3⟩:=a8k
 refine⟨?_,?_,?_,?_,?_,fun m hm=>?_⟩
 . rw[am,if_neg n1];exact h.procedure
 . rw[am,if_pos rfl]
 . rw[am,if_neg n2];exact h.numbers
 . rw[am,if_neg n3];exact h.receiver
 . have:=bm "path" (.ref q) fs;omega
 . rw[am,if_neg (a8z m hm)];exact h.meth m hm
noncomputable def vg (C:Addr):Sp:=fun vs H Q E=>∃(p dx pr pt nd:Addr) (fs:List (Str×V)) (rc x:Str),vs=[.ref p,.str x]/\H p=some (.ins C dx fs)/\FFs fs pr pt nd rc/\spNumOf [.ref nd,.str x] H Q E0
noncomputable def o0 (K:Ab) (C:Addr):Sp:=fun vs H Q E=>∃(p dx pr pt nd bd:Addr) (fs:List (Str×V)) (rc:Str) (v0 v1 v2 v3 v4:V),vs=[.ref p]/\H p=some (.ins C dx fs)/\FFs fs pr pt nd rc/\H pr=some (.tup [v0,v1,v2,v3,v4,.ref bd])/\spFound K [.ref bd,.ref pt] H Q E0
theorem scFNum:FnScope ["self","word"] ["self","word"] (au a0h):=⟨rfl,rfl,rfl,by decide +kernel,rfl,by decide +kernel,by decide +kernel⟩
theorem a7j (T:TxF K mg C fI) (F:Fun K "number" "Frame.number" a0h f fd) (GN:FnOk P w K mg base CX0 1 gN dN ["values","word"] spNumOf) (cN:Cal K mg "number_of" gN dN ["values","word"]):FnOk P w K mg base CX0 2 f fd ["self","word"] (vg C):=by
 refine F.okQ scFNum (fun vs H Q E h=>?_) (fun cdv A outer s0 H vs Q E hr h=>?_)
 . obtain⟨p,dx,pr,pt,nd,fs,rc,x,rfl,_⟩:=h;rfl
 obtain⟨p,dx,pr,pt,nd,fs,rc,x,rfl,hp,hf,q⟩:=h
 have nd:=scFNum.nd
 refine⟨_,(ai (b5 (aq GN hr rfl cN.name cN.keep cN.bind .nil ap (bv (b7 (K:=K) rfl (qv 0)) (aj (qv 1) a0))))),?_⟩
 exact⟨_,rfl,p,C,dx,fs,_,rfl,hp,T.cl,T.nN,hf.numbers,_,rfl,q⟩
theorem scFDeed:FnScope ["self"] ["self"] (au y9):=⟨rfl,rfl,rfl,by decide +kernel,rfl,by decide +kernel,by decide +kernel⟩
theorem a5n (T:TxF K mg C fI) (F:Fun K "deed" "Frame.deed" y9 f fd) (GF:FnOk P w K mg base CX0 3 gF dF ["body","path"] (spFound K)) (cF:Cal K mg "found_at" gF dF ["body","path"]):FnOk P w K mg base CX0 4 f fd ["self"] (o0 K C):=by
 refine F.okQ scFDeed (fun vs H Q E h=>?_) (fun cdv A outer s0 H vs Q E hr h=>?_)
 . obtain⟨p,dx,pr,pt,nd,bd,fs,rc,v0,v1,v2,v3,v4,rfl,_⟩:=h;rfl
 obtain⟨p,dx,pr,pt,nd,bd,fs,rc,v0,v1,v2,v3,v4,rfl,hp,hf,hpr,q⟩:=h
 have nd:=scFDeed.nd
 refine⟨_,(ai (b5 (aq GF hr rfl cF.name cF.keep cF.bind .nil ap (az (af ay (b7 (K:=K) rfl (qv 0)) ab (fun _ _=>rfl)) (bv (b7 (K:=K) rfl (qv 0)) a0))))),?_⟩
 exact⟨_,rfl,p,C,dx,fs,_,rfl,hp,T.cl,T.nP,hf.procedure,pr,_,5,_,rfl,rfl,SqT.of hpr,rfl,_,rfl,p,C,dx,fs,_,rfl,hp,T.cl,T.nA,hf.path,q⟩
noncomputable def nk (K:Ab) (C:Addr):Sp:=fun vs H Q E=>∃(p dx pr pt nd bd q0:Addr) (fs:List (Str×V)) (rc:Str) (v0 v1 v2 v3 v4:V) (pp:Pre) (k:Nat) (due:Pre×Nat) (e:Option Addr),vs=[.ref p,.ref q0]/\H p=some (.ins C dx fs)/\FFs fs pr pt nd rc/\fs.length<50/\H pr=some (.tup [v0,v1,v2,v3,v4,.ref bd])/\SqT K H q0 ((flat pp++[(k:Int)]).map V.int)/\Stands H bd pp k due e/\pp.length<=40/\
 ∀q1 fs' H',Same H H'->SqT K H' q1 ((flat due.1++[(due.2:Int)]).map V.int)->FFs fs' pr q1 nd rc->fs'.length<=fs.length+1->(∀f,f≠("path" : Str)->fs'.lookup f=fs.lookup f)->Q .non (upd H' p (.ins C dx fs'))
theorem scFMove:FnScope ["self","path"] ["self","path"] (au vj):=⟨rfl,rfl,rfl,by decide +kernel,rfl,by decide +kernel,by decide +kernel⟩
theorem a68 (T:TxF K mg C fI) (F:Fun K "move" "Frame.move" vj f fd) (GS:FnOk P w K mg base CX0 4 gS dS ["body","path"] (spSettled K)) (cS:Cal K mg "settled" gS dS ["body","path"]):FnOk P w K mg base CX0 5 f fd ["self","path"] (nk K C):=by
 refine F.okQ scFMove (fun vs H Q E h=>?_) (fun cdv A outer s0 H vs Q E hr h=>?_)
 . obtain⟨p,dx,pr,pt,nd,bd,q0,fs,rc,v0,v1,v2,v3,v4,pp,k,due,e,rfl,_⟩:=h;rfl
 obtain⟨p,dx,pr,pt,nd,bd,q0,fs,rc,v0,v1,v2,v3,v4,pp,k,due,e,rfl,hp,hf,hl,hpr,hq,hst,hpl,q⟩:=h
 have nd:=scFMove.nd
 refine⟨_,(ai (ee (K:=K) rfl (qv 0) (aq GS hr rfl cS.name cS.keep cS.bind .nil ap (az (af ay (b7 (K:=K) rfl (qv 0)) ab (fun _ _=>rfl)) (aj (qv 1) a0))))),?_⟩
 refine⟨_,rfl,p,C,dx,fs,_,rfl,hp,T.cl,T.nP,hf.procedure,pr,_,5,_,rfl,rfl,SqT.of hpr,rfl,_,rfl,bd,q0,pp,k,due,e,rfl,hq,hst,hpl,fun q1 H1 e1 h1=>?_⟩
 refine⟨_,rfl,p,C,dx,fs,rfl,e1 _ _ hp,T.cl,T.nA,by omega,?_⟩
 exact q q1 _ H1 e1 h1 (hf.path' hl q1) (bm _ _ _) fun f hf'=>by rw[am,if_neg hf']
noncomputable def gf (kvs:List (Key×V)) (zs:List Str):List (Str×V):=zs.map fun z=>(z,(valV kvs (Sum.inr z)).getD (.int 0))
inductive spFInit (K:Ab) (C:Addr) (bs:List Nat) (vs:List V) (H:Hp) (Q:VK) (E:XK):Prop
 | mk (G:Hp) (p dx t q0 nm bd:Addr) (rc:Str) (pc:Prc) (xs:List Str) (v0 v1 v2 v3 v4:V) (kvs:List (Key×V)) (pp:Pre) (k:Nat) (due:Pre×Nat) (e:Option Addr) (h0:vs=[.ref p,.ref t,.ref q0,.ref nm,.str rc]) (eG:Same G H) (hp:G p=none) (hp1:H p=some (.ins C dx [])) (h1:PrcAt K G bs t pc) (h2:PrcOk bs xs pc) (hbd:G t=some (.tup [v0,v1,v2,v3,v4,.ref bd])) (h3:SqT K G q0 ((flat pp++[(k:Int)]).map V.int)) (h4:Stands G bd pp k due e) (h5:pp.length<=40) (h6:G nm=some (.dK kvs))
     (q:∀q1 nd fs zs H',Same G H'->H' p=some (.ins C dx fs)->FFs fs t q1 nd rc->fs.length<=4->SqT K H' q1 ((flat due.1++[(due.2:Int)]).map V.int)->H nd=none->H' nd=some (.dK ((gf kvs zs).map kk))->zs.Nodup->E8 zs=true->(∀y,y∈zs↔bx y=true/\y∈allW bs pc)->Q .non H'):spFInit K C bs vs H Q E
theorem a7h:("procedure" : Str) ≠ "path" /\ ("procedure" : Str) ≠ "numbers" /\ ("procedure" : Str) ≠ "receiver" /\ ("path" : Str) ≠ "numbers" /\ ("path" : Str) ≠ "receiver" /\ ("numbers" : Str) ≠ "receiver" := by decide +kernel
theorem aaq:∀m∈([("deed" : Str),"move","number"]:List Str),m≠("procedure" : Str)/\m≠("path" : Str)/\m≠("numbers" : Str)/\m≠("receiver" : Str):=by decide +kernel
theorem a7v (pr pt nd:Addr) (rc:Str):FFs (putF "receiver" (.str rc) (putF "numbers" (.ref nd) (putF "path" (.ref pt) (putF "procedure" (.ref pr) [])))) pr pt nd rc/\(putF "receiver" (.str rc) (putF "numbers" (.ref nd) (putF "path" (.ref pt) (putF "procedure" (.ref pr) [])))).length<=4:=by
 obtain⟨n1,n2,n3,n4,n5,n6⟩:=a7h
 have h1:=bm "procedure" (.ref pr) []
 have h2:=bm "path" (.ref pt) (putF "procedure" (.ref pr) [])
 have h3:=bm "numbers" (.ref nd) (putF "path" (.ref pt) (putF "procedure" (.ref pr) []))
 have h4:=bm "receiver" (.str rc) (putF "numbers" (.ref nd) (putF "path" (.ref pt) (putF "procedure" (.ref pr) [])))
 simp only[DD] at h1
 refine⟨⟨?_,?_,?_,?_,by omega,fun m hm=>?_⟩,by omega⟩
 . rw[am,if_neg n3,am,if_neg n2,am,if_neg n1,am,if_pos rfl]
 . rw[am,if_neg n5,am,if_neg n4,am,if_pos rfl]
 . rw[am,if_neg n6,am,if_pos rfl]
 . rw[am,if_pos rfl]
 . obtain⟨m1,m2,m3,m4⟩:=aaq m hm
   rw[am,if_neg m4,am,if_neg m3,am,if_neg m2,am,if_neg m1];rfl
theorem rg {K:Ab}{D:Addr}{H:Hp}{kvs:List (Key×V)}:∀{us:List Addr}{zs:List Str},Paired (fun b (z:Str)=>b≠D/\H b=some (.tup [.str z,(valV kvs (Sum.inr z)).getD (.int 0)])) us zs->Paired (fun t (kv:Str×V)=>SqT K H t [.str kv.1,kv.2]) us (gf kvs zs)
 | _,_,.nil=>.nil
 | _,_,.cons h r=>.cons (SqT.of h.2) (rg r)
theorem scFInit:FnScope ["self","procedure","path","numbers","receiver"] ["self","procedure","path","numbers","receiver"] (au y6):=⟨rfl,rfl,rfl,by decide +kernel,rfl,by decide +kernel,by decide +kernel⟩
theorem a67 {n:Nat}{bs:List Nat}(hn:4<=n) (C':Con K mg w) (T:TxF K mg C fI) (F:Fun K "__init__" "Frame.__init__" y6 f fd) (GS:FnOk P w K mg base CX0 4 gS dS ["body","path"] (spSettled K)) (cS:Cal K mg "settled" gS dS ["body","path"]) (GN:FnOk P w K mg base CX0 n gN dN ["procedure"] (spNamesIn K bs)) (cN:Cal K mg "names_in" gN dN ["procedure"]):FnOk P w K mg base CX0 (n+1) f fd ["self","procedure","path","numbers","receiver"] (spFInit K C bs):=by
 refine F.okQ scFInit (fun vs H Q E h=>?_) (fun cdv A outer s0 H vs Q E hr h=>?_)
 . obtain⟨G,p,dx,t,q0,nm,bd,rc,pc,xs,v0,v1,v2,v3,v4,kvs,pp,k,due,e,rfl,_⟩:=h;rfl
 obtain⟨G,p,dx,t,q0,nm,bd,rc,pc,xs,v0,v1,v2,v3,v4,kvs,pp,k,due,e,rfl,eG,hp,hp1,h1,h2,hbd,h3,h4,h5,h6,q⟩:=h
 have nd:=scFInit.nd
 have hr4:=hr.mono (j:=4) (by omega)
 have hu1:=dn hr
 refine⟨_,ae (ee (K:=K) rfl (qv 0) (qv 1))
   (ae (ee (K:=K) rfl (qv 0) (aq GS hr4 rfl cS.name cS.keep cS.bind .nil ap (az (af ay (qv 1) ab (fun _ _=>rfl)) (aj (qv 2) a0))))
   (ae (ee (K:=K) rfl (qv 0) (be (rl (K:=K) rfl rfl) rfl C'.dict BE (bv (a6e ["name","numbers"] [3] (gc (aq GN hr rfl cN.name cN.keep cN.bind .nil ap (aj (qv 1) a0))) (fun _ _ _ _=>om) (fun _ _ _ _=>(cf (aj (qv 0) (bi (a5k hu1 (qv 1) (qv 0) ab) a0))))) a0)))
   (ai (ee (K:=K) rfl (qv 0) (qv 4))))),?_⟩
 have small:∀{n:Nat},n<=10->n<1000:=fun h=>by omega
 refine⟨_,rfl,_,rfl,p,C,dx,_,rfl,hp1,T.cl,T.nP,small (AG _),?_⟩
 have g1:Same G (upd H p (.ins C dx (putF "procedure" (.ref t) []))):=fun b o z=>by rw[ah (ao z hp)];exact eG _ _ z
 have k1:(upd H p (.ins C dx (putF "procedure" (.ref t) []))) p=some (.ins C dx (putF "procedure" (.ref t) [])):=aa
 have f1:∀c,(upd H p (.ins C dx (putF "procedure" (.ref t) []))) c=none->H c=none:=fun c z=>by
   by_cases y:c=p
   . rw[y,aa] at z;cases z
   . rw[ah y] at z;exact z
 generalize upd H p (.ins C dx (putF "procedure" (.ref t) []))=H1 at g1 k1 f1 |-
 have l1:=bm "procedure" (.ref t) []
 simp only[DD] at l1
 refine⟨_,rfl,t,_,5,_,rfl,rfl,SqT.of (g1 _ _ hbd),rfl,_,rfl,bd,q0,pp,k,due,e,rfl,g1.seqT h3,h4.same g1,h5,fun q1 H2 e2 hq1=>?_⟩
 have l2:=bm "path" (.ref q1) (putF "procedure" (.ref t) [])
 refine⟨_,rfl,p,C,dx,_,rfl,e2 _ _ k1,T.cl,T.nA,small (by omega),?_⟩
 have g2:=g1.trans e2
 have g3:Same G (upd H2 p (.ins C dx (putF "path" (.ref q1) (putF "procedure" (.ref t) [])))):=fun b o z=>by rw[ah (ao z hp)];exact g2 _ _ z
 have k3:(upd H2 p (.ins C dx (putF "path" (.ref q1) (putF "procedure" (.ref t) [])))) p=some (.ins C dx (putF "path" (.ref q1) (putF "procedure" (.ref t) []))):=aa
 have f3:∀c,(upd H2 p (.ins C dx (putF "path" (.ref q1) (putF "procedure" (.ref t) [])))) c=none->H c=none:=fun c z=>by
   by_cases y:c=p
   . rw[y,aa] at z;cases z
   . rw[ah y] at z;exact f1 c (e2.free z)
 have put:∀{H':Hp} {fs fs':List (Str×V)} {a:Addr} {ys:List V},H' p=some (.ins C dx fs)->SqT K H' a ys->SqT K (upd H' p (.ins C dx fs')) a ys:=fun {H' fs fs' a ys} hp' h=>by
   rcases h with (h|⟨o,h⟩)|h
   . exact .inl (.inl (by rw[ah (fun z=>by rw[z,hp'] at h;cases h)];exact h))
   . exact .inl (.inr ⟨o,by rw[ah (fun z=>by rw[z,hp'] at h;cases h)];exact h⟩)
   . exact .inr h
 have hq3:=put (fs':=putF "path" (.ref q1) (putF "procedure" (.ref t) [])) (e2 _ _ k1) hq1
 generalize upd H2 p (.ins C dx (putF "path" (.ref q1) (putF "procedure" (.ref t) [])))=H3 at g3 k3 f3 hq3 |-
 refine⟨_,rfl,G,t,pc,xs,rfl,g3,h1,h2,fun zl zs H4 e4 hzl kz hzn hzs hzm=>?_⟩
 have g4:=g3.trans e4
 have hzl20:zs.length<=20:=Ax (Bf hzn fun y hy=>h2.names y ((hzm y).mp hy).2 ((hzm y).mp hy).1) h2.len
 refine⟨zl,rfl,⟨_,SqL.of kz⟩,?_⟩
 refine j9 (zs.map V.str) zs (fun D G' y (z:Str)=>∃b,y=V.ref b/\b≠D/\G' b=some (.tup [.str z,(valV kvs (Sum.inr z)).getD (.int 0)])) id ia (SqL.of kz) (by rw[Ac];omega) (by rw[Ac]) (fun D G1 G2 y x z e=>?_) (fun D hD j x r hx hr' H5 e5 hD2 Q' q'=>?_) (fun D H5 ys hD e5 hD2 hpt=>?_)
 . obtain⟨b,rfl,nb,hb⟩:=z
   exact⟨b,rfl,nb,e _ _ hb nb⟩
 . have hx':x=.str r:=by rw[Ak,hr'] at hx;exact (Av hx).symm
   subst hx'
   have h6':=(g4.trans e5) _ _ h6
   have g:=DGet.k (k:=Sum.inr r) h6'
   refine⟨_,rfl,_,rfl,nm,rfl,.inl ⟨_,.inl h6'⟩,_,rfl,_,g,(show 2<=sizeLine by decide),fun b hb=>q' (.ref b) _ (ad hb _) ⟨b,rfl,fun z=>?_,aa⟩⟩
   rw[z] at hb;exact hD2 hb
 rw[Dx] at hpt
 obtain⟨us,rfl,hpp⟩:=gh (R:=fun b (z:Str)=>b≠D/\H5 b=some (.tup [.str z,(valV kvs (Sum.inr z)).getD (.int 0)])) hpt
 have hul:=AD hpp
 refine⟨D,us,gf kvs zs,rfl,SqL.of hD2,rg hpp,?_,(by omega),fun nd' hnd'=>?_⟩
 . unfold gf
   rw[Cv]
   have:(zs.map ((fun x=>x.1)∘fun z=>(z,(valV kvs (Sum.inr z)).getD (.int 0))))=zs:=by
     have e:((fun x:Str×V=>x.1)∘fun z:Str=>(z,(valV kvs (Sum.inr z)).getD (.int 0)))=id:=rfl
     rw[e,Dx]
   rw[this];exact hzn
 have e35:=e4.trans e5
 have s6:=ad hnd' (.dK ((gf kvs zs).map kk))
 have k6:(upd H5 nd' (.dK ((gf kvs zs).map kk))) nd'=some (.dK ((gf kvs zs).map kk)):=aa
 have nH:H nd'=none:=f3 _ (e35.free hnd')
 generalize upd H5 nd' (.dK ((gf kvs zs).map kk))=H6 at s6 k6 |-
 have e36:=e35.trans s6
 have k36:=e36 _ _ k3
 have l3:=bm "numbers" (.ref nd') (putF "path" (.ref q1) (putF "procedure" (.ref t) []))
 refine⟨_,rfl,p,C,dx,_,rfl,k36,T.cl,T.nN,small (by omega),?_⟩
 refine⟨_,rfl,_,rfl,p,C,dx,_,rfl,aa,T.cl,T.nR,small (by omega),?_⟩
 obtain⟨FF,fl⟩:=a7v t q1 nd' rc
 have npd:nd'≠p:=fun z=>by rw[z,k36] at k6;cases k6
 refine q q1 nd' _ zs _ (fun b o z=>?_) aa FF fl (put aa (put k36 (e36.seqT hq3))) nH ?_ hzn hzs hzm
 . rw[ah (ao z hp),ah (ao z hp)];exact (g3.trans e36) _ _ z
 . rw[ah npd,ah npd];exact k6
noncomputable abbrev w8:Stmt:=dh (top 30) 0
noncomputable abbrev vk:Stmt:=dh (top 30) 1
noncomputable abbrev wo:Stmt:=dh (top 30) 3
noncomputable abbrev xt:Stmt:=dh (top 30) 4
noncomputable abbrev wu:Stmt:=dh (top 30) 6
noncomputable abbrev u0:Stmt:=dh (top 30) 9
noncomputable abbrev qh:Stmt:=dh (top 30) 10
structure TxM (K:Ab) (mg:Str->Option Value) (C fI:Addr):Prop where
 cl:Cls K C
 nP:NoAttr K C "procedures"
 nF:NoAttr K C "frames"
 nC:NoAttr K C "cells"
 nG:NoAttr K C "greatest"
 nL:NoAttr K C "fallen"
 mgC:mg "Machine" = some (.ref C)
 mkC:Mk K C fI
noncomputable def ld:List Str:=["word","where","held","heap","go","step","branch","enter","leave_ended","change"]
structure MFs (fs:List (Str×V)) (pd fl cd:Addr) (g:Int) (b:Bool):Prop where
 procedures:fs.lookup ("procedures" : Str)=some (.ref pd)
 frames:fs.lookup ("frames" : Str)=some (.ref fl)
 cells:fs.lookup ("cells" : Str)=some (.ref cd)
 greatest:fs.lookup ("greatest" : Str)=some (.int g)
 fallen:fs.lookup ("fallen" : Str)=some (.bl b)
 len:fs.length<100
 meth:∀m∈ld,fs.lookup m=none
structure MaAt (CM CF:Addr) (H:Hp) (m pd fl cd p pr pt nd:Addr) (fps:List Addr) (g:Int) (b:Bool) (rc:Str):Prop where
 ob:∃dx fs,H m=some (.ins CM dx fs)/\MFs fs pd fl cd g b
 frs:H fl=some (.lst ((fps++[p]).map V.ref))
 fr:∃dx fs,H p=some (.ins CF dx fs)/\FFs fs pr pt nd rc/\fs.length<50
noncomputable def a3u (CM CF:Addr):Sp:=fun vs H Q E=>∃(m pd fl cd p pr pt nd:Addr) (fps:List Addr) (g:Int) (b:Bool) (rc:Str) (kvs:List (Key×V)),vs=[.ref m]/\MaAt CM CF H m pd fl cd p pr pt nd fps g b rc/\H nd=some (.dK kvs)/\∀a,H a=none->Q (.ref a) (upd H a (.dK kvs))
noncomputable def a3x (CM:Addr):Sp:=fun vs H Q E=>∃(m dx pd fl cd:Addr) (fs:List (Str×V)) (g:Int) (b:Bool) (kvs:List (Key×V)),vs=[.ref m]/\H m=some (.ins CM dx fs)/\MFs fs pd fl cd g b/\H cd=some (.dK kvs)/\∀a,H a=none->Q (.ref a) (upd H a (.dK kvs))
inductive spWord (K:Ab) (CM CF:Addr) (vs:List V) (H:Hp) (Q:VK) (E:XK):Prop
 | fall (m dx pd fl cd:Addr) (fs:List (Str×V)) (g:Int) (h0:vs=[.ref m]) (h1:H m=some (.ins CM dx fs)) (h2:MFs fs pd fl cd g true) (q:Q (.str "fall") H):spWord K CM CF vs H Q E
 | fine (m pd fl cd p pr pt nd bd l:Addr) (fps:List Addr) (g:Int) (rc:Str) (v0 v1 v2 v3 v4:V) (pp:Pre) (k:Nat) (ts:List Addr) (h0:vs=[.ref m]) (h1:MaAt CM CF H m pd fl cd p pr pt nd fps g false rc) (h2:H pr=some (.tup [v0,v1,v2,v3,v4,.ref bd])) (h3:SqT K H pt ((flat pp++[(k:Int)]).map V.int)) (h4:LFrom H bd pp l) (h5:pp.length<=100) (h6:H l=some (.lst (ts.map V.ref))) (q:∀H',Same H H'->Q (.str (if k<ts.length then "on" else "end")) H'):spWord K CM CF vs H Q E
theorem scHeld:FnScope ["self"] ["self"] (au wo):=⟨rfl,rfl,rfl,by decide +kernel,rfl,by decide +kernel,by decide +kernel⟩
theorem a8a (C:Con K mg w) (T:TxM K mg CM fI) (U:TxF K mg CF fJ) (F:Fun K "held" "Machine.held" wo f fd):FnOk P w K mg base CX0 1 f fd ["self"] (a3u CM CF):=by
 refine F.okQ scHeld (fun vs H Q E h=>?_) (fun cdv A outer s0 H vs Q E hr h=>?_)
 . obtain⟨_,_,_,_,_,_,_,_,_,_,_,_,_,rfl,_⟩:=h;rfl
 obtain⟨m,pd,fl,cd,p,pr,pt,nd',fps,g,b,rc,kvs,rfl,⟨⟨dx,fs,hm,hfs⟩,hfl,⟨dx',fs',hp,hff,_⟩⟩,hn,q⟩:=h
 have nd:=scHeld.nd
 refine⟨_,(ai (b5 (be ig rfl C.dict BE (bv (b7 (K:=K) rfl (af ef (b7 (K:=K) rfl (qv 0)) (c7 bu ab) (fun _ _=>rfl))) a0)))),?_⟩
 rw[AB] at hfl
 exact⟨_,rfl,m,CM,dx,fs,_,rfl,hm,T.cl,T.nF,hfs.frames,_,rfl,fl,_,_,_,rfl,rfl,SqL.of hfl,bh,p,CF,dx',fs',_,rfl,hp,U.cl,U.nN,hff.numbers,nd',kvs,rfl,hn,q⟩
theorem scHeap:FnScope ["self"] ["self"] (au xt):=⟨rfl,rfl,rfl,by decide +kernel,rfl,by decide +kernel,by decide +kernel⟩
theorem a89 (C:Con K mg w) (T:TxM K mg CM fI) (F:Fun K "heap" "Machine.heap" xt f fd):FnOk P w K mg base CX0 1 f fd ["self"] (a3x CM):=by
 refine F.okQ scHeap (fun vs H Q E h=>?_) (fun cdv A outer s0 H vs Q E hr h=>?_)
 . obtain⟨_,_,_,_,_,_,_,_,_,rfl,_⟩:=h;rfl
 obtain⟨m,dx,pd,fl,cd,fs,g,b,kvs,rfl,hm,hfs,hc,q⟩:=h
 have nd:=scHeap.nd
 refine⟨_,(ai (b5 (be ig rfl C.dict BE (bv (b7 (K:=K) rfl (qv 0)) a0)))),?_⟩
 exact⟨_,rfl,m,CM,dx,fs,_,rfl,hm,T.cl,T.nC,hfs.cells,cd,kvs,rfl,hc,q⟩
theorem scWord:FnScope ["self"] ["self"] (au vk):=⟨rfl,rfl,rfl,by decide +kernel,rfl,by decide +kernel,by decide +kernel⟩
theorem a7f (C:Con K mg w) (T:TxM K mg CM fI) (U:TxF K mg CF fJ) (F:Fun K "word" "Machine.word" vk f fd) (GD:FnOk P w K mg base CX0 4 gD dD ["self"] (o0 K CF)) (cD:MCal K CF "deed" gD dD ["self"]):FnOk P w K mg base CX0 5 f fd ["self"] (spWord K CM CF):=by
 refine F.okQ scWord (fun vs H Q E h=>?_) (fun cdv A outer s0 H vs Q E hr h=>?_)
 . rcases h with⟨_,_,_,_,_,_,_,rfl,_⟩|⟨_,_,_,_,_,_,_,_,_,_,_,_,_,_,_,_,_,_,_,_,_,rfl,_⟩<;>rfl
 have nd:=scWord.nd
 refine⟨_,ae (bg (ft (b7 (K:=K) rfl (qv 0))) (ai (b5 b6)) bq)
   (ai (b5 (gj (aw wt (dt (af ef (b7 (K:=K) rfl (qv 0)) (c7 bu ab) (fun _ _=>rfl)) U.cl cD.meth GD hr cD.bind .nil ap) gw (av _)) b6 b6))),?_⟩
 rcases h with⟨m,dx,pd,fl,cd,fs,g,rfl,hm,hfs,q⟩|⟨m,pd,fl,cd,p,pr,pt,nd',bd,l,fps,g,rc,v0,v1,v2,v3,v4,pp,k,ts,rfl,⟨⟨dx,fs,hm,hfs⟩,hfl,⟨dx',fs',hp,hff,_⟩⟩,hpr,hpt,hlf,hpl,hts,q⟩
 . exact⟨_,rfl,m,CM,dx,fs,_,rfl,hm,T.cl,T.nL,hfs.fallen,_,rfl,iteB (fun _=>q) (fun c=>by cases c)⟩
 . refine⟨_,rfl,m,CM,dx,fs,_,rfl,hm,T.cl,T.nL,hfs.fallen,_,rfl,iteB (fun c=>by cases c) (fun _=>?_)⟩
   rw[AB] at hfl
   refine⟨_,rfl,m,CM,dx,fs,_,rfl,hm,T.cl,T.nF,hfs.frames,_,rfl,fl,_,_,_,rfl,rfl,SqL.of hfl,bh,p,dx',fs',rfl,hp,hff.meth _ (by simp),?_⟩
   refine⟨p,dx',pr,pt,nd',bd,fs',rc,v0,v1,v2,v3,v4,rfl,hp,hff,hpr,?_⟩
   refine⟨bd,pt,l,pp,k,ts,rfl,hpt,hlf,hpl,hts,fun t H' ht e=>?_,fun H' hn e=>?_⟩
   . have hk:=(Aq.mp ht).1
     have:=q H' e
     rw[if_pos hk] at this
     exact⟨rfl,_,rfl,iteB (fun c=>by cases of_decide_eq_true c) (fun _=>this)⟩
   . have hk:¬ k<ts.length:=fun z=>by rw[Ai z] at hn;cases hn
     have:=q H' e
     rw[if_neg hk] at this
     exact⟨rfl,_,rfl,iteB (fun _=>this) (fun c=>absurd rfl (of_decide_eq_false c))⟩
theorem a6t {X:Cx}{e:Expr}:QE X e (fun _ _ _=>False):=⟨fun _ _ _ _ _ _ h=>h.elim⟩
noncomputable def numV (kvs:List (Key×V)) (x:Str):Option V:=if x = "nil" then some (.int 0) else valV kvs (Sum.inr x)
theorem jj {d:Addr}{H:Hp}{kvs:List (Key×V)}{x:Str}{v:V}{Q:VK}{E:XK}(h1:H d=some (.dK kvs)) (h2:numV kvs x=some v) (q:Q v H):spNumOf [.ref d,.str x] H Q E:=by
 unfold numV at h2
 by_cases hx:x = "nil"
 . rw[if_pos hx] at h2
   cases h2
   exact .nil d (by rw[hx]) q
 . rw[if_neg hx] at h2
   exact .name d kvs x v rfl hx h1 h2 q
inductive spChange (CM CF:Addr) (vs:List V) (H:Hp) (Q:VK) (E:XK):Prop
 | set (m p dx pr pt nd t:Addr) (fs:List (Str×V)) (rc x y:Str) (kvs:List (Key×V)) (v:V) (h0:vs=[.ref m,.ref p,.ref t]) (h1:H p=some (.ins CF dx fs)) (h2:FFs fs pr pt nd rc) (h3:H t=some (.tup [.str "set",.str x,.str y])) (h4:H nd=some (.dK kvs)) (h5:kvs.length<=100) (h6:numV kvs y=some v) (q:Q .non (upd H nd (.dK (putK kvs (Sum.inr x) v)))):spChange CM CF vs H Q E
 | free (m p dm dx pr pt nd pd fl cd t:Addr) (fm fs:List (Str×V)) (rc x:Str) (g:Int) (b:Bool) (kvs cvs:List (Key×V)) (i:Int) (c:V) (h0:vs=[.ref m,.ref p,.ref t]) (hm:H m=some (.ins CM dm fm)) (hM:MFs fm pd fl cd g b) (h1:H p=some (.ins CF dx fs)) (h2:FFs fs pr pt nd rc) (h3:H t=some (.tup [.str "free",.str x])) (h4:H nd=some (.dK kvs)) (h6:numV kvs x=some (.int i)) (h7:H cd=some (.dK cvs)) (h8:valV cvs (Sum.inl i)=some c) (q:Q .non (upd H cd (.dK (mw cvs (Sum.inl i))))):spChange CM CF vs H Q E
 | new (m p dm dx pr pt nd pd fl cd t:Addr) (fm fs:List (Str×V)) (rc x y z:Str) (g:Int) (b:Bool) (kvs cvs:List (Key×V)) (v1 v2:V) (h0:vs=[.ref m,.ref p,.ref t]) (hm:H m=some (.ins CM dm fm)) (hM:MFs fm pd fl cd g b) (hl:fm.length<50) (hne:m≠p) (hnc:nd≠cd) (h1:H p=some (.ins CF dx fs)) (h2:FFs fs pr pt nd rc) (h3:H t=some (.tup [.str "new",.str x,.str y,.str z])) (h4:H nd=some (.dK kvs)) (h5:kvs.length<=100) (h6:numV kvs y=some v1) (h6':numV kvs z=some v2) (h7:H cd=some (.dK cvs)) (h8:cvs.length<=900) (q:∀c,H c=none->Q .non (upd (upd (upd (upd H c (.tup [v1,v2])) m (.ins CM dm (putF "greatest" (.int (g+1)) fm))) cd (.dK (putK cvs (Sum.inl (g+1)) (.ref c)))) nd (.dK (putK kvs (Sum.inr x) (.int (g+1)))))):spChange CM CF vs H Q E
theorem a8x:("procedures" : Str) ≠ "greatest" /\ ("frames" : Str) ≠ "greatest" /\ ("cells" : Str) ≠ "greatest" /\ ("fallen" : Str) ≠ "greatest" := by decide +kernel
theorem aa1:∀m∈ld,m≠("greatest" : Str):=by decide +kernel
theorem MFs.great {fs:List (Str×V)}{pd fl cd:Addr}{g:Int}{b:Bool}(h:MFs fs pd fl cd g b) (hl:fs.length<50) (g':Int):MFs (putF "greatest" (.int g') fs) pd fl cd g' b:=by
 obtain⟨n1,n2,n3,n4⟩:=a8x
 refine⟨?_,?_,?_,?_,?_,?_,fun m hm=>?_⟩
 . rw[am,if_neg n1];exact h.procedures
 . rw[am,if_neg n2];exact h.frames
 . rw[am,if_neg n3];exact h.cells
 . rw[am,if_pos rfl]
 . rw[am,if_neg n4];exact h.fallen
 . have:=bm "greatest" (.int g') fs;omega
 . rw[am,if_neg (aa1 m hm)];exact h.meth m hm
theorem scChange:FnScope ["self","frame","deed","cell"] ["self","frame","deed"] (au qh):=⟨rfl,rfl,rfl,by decide +kernel,rfl,by decide +kernel,by decide +kernel⟩
theorem a4n (C:Con K mg w) (T:TxM K mg CM fI) (U:TxF K mg CF fJ) (F:Fun K "change" "Machine.change" qh f fd) (GN:FnOk P w K mg base CX0 2 gN dN ["self","word"] (vg CF)) (cN:MCal K CF "number" gN dN ["self","word"]):FnOk P w K mg base CX0 3 f fd ["self","frame","deed"] (spChange CM CF):=by
 refine F.okQ scChange (fun vs H Q E h=>?_) (fun cdv A outer s0 H vs Q E hr h=>?_)
 . rcases h with⟨_,_,_,_,_,_,_,_,_,_,_,_,_,rfl,_⟩|⟨_,_,_,_,_,_,_,_,_,_,_,_,_,_,_,_,_,_,_,_,_,rfl,_⟩|⟨_,_,_,_,_,_,_,_,_,_,_,_,_,_,_,_,_,_,_,_,_,_,_,rfl,_⟩<;>rfl
 have nd:=scChange.nd
 have hu1:=dn hr
 refine⟨_,(ai (bg (aw bb (af ay (qv 2) ab (fun _ _=>rfl)) b6 (av _)) (ai (di hu1 (b7 (K:=K) rfl (qv 1)) (af ay (qv 2) ab (fun _ _=>rfl)) (cv (qv 1) U.cl cN.meth GN hr cN.bind .nil ap (az (af ay (qv 2) ab (fun _ _=>rfl)) a0)))) (ai (bg (aw bb (af ay (qv 2) ab (fun _ _=>rfl)) b6 (av _)) (ai (di hu1 (b7 (K:=K) rfl (qv 1)) (af ay (qv 2) ab (fun _ _=>rfl)) (af ay (fj hu1 (b7 (K:=K) rfl (qv 0)) (cv (qv 1) U.cl cN.meth GN hr cN.bind .nil ap (az (af ay (qv 2) ab (fun _ _=>rfl)) a0)) (fun _ _=>rfl)) a6t (fun _ _=>rfl)))) (ai (bg (aw bb (af ay (qv 2) ab (fun _ _=>rfl)) b6 (av _)) (ae (ar (i:=3) nd rfl (Or.inl rfl) (be dr rfl C.list Bv (az (fj hu1 (b7 (K:=K) rfl (qv 0)) (cv (qv 1) U.cl cN.meth GN hr cN.bind .nil ap (az (af ay (qv 2) ab (fun _ _=>rfl)) a0)) (fun _ _=>rfl)) a0)))
   (ae (jt (cv (qv 1) U.cl cN.meth GN hr cN.bind .nil ap (az (af ay (qv 2) ab (fun _ _=>rfl)) a0)) (wn (qv 3) a6t i5))
   (ai (di hu1 (b7 (K:=K) rfl (qv 0)) (cv (qv 1) U.cl cN.meth GN hr cN.bind .nil ap (az (af ay (qv 2) ab (fun _ _=>rfl)) a0)) (be kx rfl C.tuple FP (aj (qv 3) a0)))))) (ai (bg (aw bb (af ay (qv 2) ab (fun _ _=>rfl)) b6 (av _)) (ae (ar (i:=3) nd rfl (Or.inl rfl) (cf (bi (cv (qv 1) U.cl cN.meth GN hr cN.bind .nil ap (az (af ay (qv 2) ab (fun _ _=>rfl)) a0)) (bi (cv (qv 1) U.cl cN.meth GN hr cN.bind .nil ap (az (af ay (qv 2) ab (fun _ _=>rfl)) a0)) a0))))
   (ae (ee (K:=K) rfl (qv 0) (ax cg (b7 (K:=K) rfl (qv 0)) ab))
   (ae (di hu1 (b7 (K:=K) rfl (qv 0)) (b7 (K:=K) rfl (qv 0)) (qv 3))
   (ai (di hu1 (b7 (K:=K) rfl (qv 1)) (af ay (qv 2) ab (fun _ _=>rfl)) (b7 (K:=K) rfl (qv 0))))))) (ai (bp (a5v (b7 (K:=K) rfl (qv 0)) (cv (qv 1) U.cl cN.meth GN hr cN.bind .nil ap (az (af ay (qv 2) ab (fun _ _=>rfl)) a0))))))))))))),?_⟩
 rcases h with⟨m,p,dx,pr,pt,nd',t,fs,rc,x,y,kvs,v,rfl,hp,hff,ht,hn,hl,hv,q⟩|⟨m,p,dm,dx,pr,pt,nd',pd,fl,cd,t,fm,fs,rc,x,g,b,kvs,cvs,i,c,rfl,hm,hM,hp,hff,ht,hn,hv,hc,hcv,q⟩|⟨m,p,dm,dx,pr,pt,nd',pd,fl,cd,t,fm,fs,rc,x,y,z,g,b,kvs,cvs,v1,v2,rfl,hm,hM,hl,hne,hnc,hp,hff,ht,hn,hkl,hv1,hv2,hc,hcl,q⟩
 . refine⟨_,rfl,t,_,0,_,rfl,rfl,SqT.of ht,rfl,rfl,_,rfl,iteB (fun _=>?_) (fun c=>absurd c (by decide +kernel))⟩
   refine⟨_,rfl,p,dx,fs,rfl,hp,hff.meth _ (by simp),_,rfl,t,_,2,_,rfl,rfl,SqT.of ht,rfl,p,dx,pr,pt,nd',fs,rc,y,rfl,hp,hff,jj hn hv ?_⟩
   exact⟨_,rfl,p,CF,dx,fs,_,rfl,hp,U.cl,U.nN,hff.numbers,_,rfl,t,_,1,_,rfl,rfl,SqT.of ht,rfl,nd',_,rfl,DPut.k (k:=Sum.inr x) hn (cx (by omega)),q⟩
 . refine⟨_,rfl,t,_,0,_,rfl,rfl,SqT.of ht,rfl,rfl,_,rfl,iteB (fun c=>absurd c (by decide +kernel)) (fun _=>?_)⟩
   refine⟨_,rfl,t,_,0,_,rfl,rfl,SqT.of ht,rfl,rfl,_,rfl,iteB (fun c=>absurd c (by decide +kernel)) (fun _=>?_)⟩
   refine⟨_,rfl,t,_,0,_,rfl,rfl,SqT.of ht,rfl,rfl,_,rfl,iteB (fun c=>absurd c (by decide +kernel)) (fun _=>?_)⟩
   refine⟨_,rfl,t,_,0,_,rfl,rfl,SqT.of ht,rfl,rfl,_,rfl,iteB (fun c=>absurd c (by decide +kernel)) (fun _=>?_)⟩
   refine⟨_,rfl,m,CM,dm,fm,_,rfl,hm,T.cl,T.nC,hM.cells,cd,rfl,.inl ⟨_,.inl hc⟩,?_⟩
   refine⟨_,rfl,p,dx,fs,rfl,hp,hff.meth _ (by simp),_,rfl,t,_,1,_,rfl,rfl,SqT.of ht,rfl,p,dx,pr,pt,nd',fs,rc,x,rfl,hp,hff,jj hn hv ?_⟩
   exact⟨cvs,Sum.inl i,c,hc,rfl,hcv,q⟩
 . refine⟨_,rfl,t,_,0,_,rfl,rfl,SqT.of ht,rfl,rfl,_,rfl,iteB (fun c=>absurd c (by decide +kernel)) (fun _=>?_)⟩
   refine⟨_,rfl,t,_,0,_,rfl,rfl,SqT.of ht,rfl,rfl,_,rfl,iteB (fun c=>absurd c (by decide +kernel)) (fun _=>?_)⟩
   refine⟨_,rfl,t,_,0,_,rfl,rfl,SqT.of ht,rfl,rfl,_,rfl,iteB (fun c=>absurd c (by decide +kernel)) (fun _=>?_)⟩
   refine⟨_,rfl,t,_,0,_,rfl,rfl,SqT.of ht,rfl,rfl,_,rfl,iteB (fun _=>?_) (fun c=>absurd c (by decide +kernel))⟩
   refine⟨_,rfl,p,dx,fs,rfl,hp,hff.meth _ (by simp),_,rfl,t,_,2,_,rfl,rfl,SqT.of ht,rfl,p,dx,pr,pt,nd',fs,rc,y,rfl,hp,hff,jj hn hv1 ?_⟩
   refine⟨_,rfl,p,dx,fs,rfl,hp,hff.meth _ (by simp),_,rfl,t,_,3,_,rfl,rfl,SqT.of ht,rfl,p,dx,pr,pt,nd',fs,rc,z,rfl,hp,hff,jj hn hv2 ?_⟩
   refine⟨(show 2<=sizeLine by decide),fun c hcn=>?_⟩
   have s1:=ad hcn (.tup [v1,v2])
   have q1:=q c hcn
   generalize upd H c (.tup [v1,v2])=H1 at s1 q1 |-
   have hm1:=s1 _ _ hm
   refine⟨_,rfl,m,CM,dm,fm,_,rfl,hm1,T.cl,T.nG,hM.greatest,_,_,rfl,rfl,_,rfl,m,CM,dm,fm,rfl,hm1,T.cl,T.nG,by omega,?_⟩
   have hM2:=hM.great hl (g+1)
   have k2:(upd H1 m (.ins CM dm (putF "greatest" (.int (g+1)) fm))) m=some (.ins CM dm (putF "greatest" (.int (g+1)) fm)):=aa
   have ncm:cd≠m:=fun w=>by rw[w,hm] at hc;cases hc
   have nnm:nd'≠m:=fun w=>by rw[w,hm] at hn;cases hn
   have ntm:t≠m:=fun w=>by rw[w,hm] at ht;cases ht
   have npc:p≠cd:=fun w=>by rw[w,hc] at hp;cases hp
   have ntc:t≠cd:=fun w=>by rw[w,hc] at ht;cases ht
   have hc2:(upd H1 m (.ins CM dm (putF "greatest" (.int (g+1)) fm))) cd=some (.dK cvs):=by rw[ah ncm];exact s1 _ _ hc
   have hn2:(upd H1 m (.ins CM dm (putF "greatest" (.int (g+1)) fm))) nd'=some (.dK kvs):=by rw[ah nnm];exact s1 _ _ hn
   have hp2:(upd H1 m (.ins CM dm (putF "greatest" (.int (g+1)) fm))) p=some (.ins CF dx fs):=by rw[ah (AO hne)];exact s1 _ _ hp
   have ht2:(upd H1 m (.ins CM dm (putF "greatest" (.int (g+1)) fm))) t=some (.tup [.str "new",.str x,.str y,.str z]):=by rw[ah ntm];exact s1 _ _ ht
   generalize upd H1 m (.ins CM dm (putF "greatest" (.int (g+1)) fm))=H2 at k2 hc2 hn2 hp2 ht2 q1 |-
   refine⟨_,rfl,_,rfl,m,CM,dm,_,_,rfl,k2,T.cl,T.nC,hM2.cells,_,rfl,m,CM,dm,_,_,rfl,k2,T.cl,T.nG,hM2.greatest,cd,_,rfl,DPut.k (k:=Sum.inl (g+1)) hc2 (cx (by omega)),?_⟩
   have k3:(upd H2 cd (.dK (putK cvs (Sum.inl (g+1)) (.ref c)))) m=some (.ins CM dm (putF "greatest" (.int (g+1)) fm)):=by rw[ah (AO ncm)];exact k2
   have hn3:(upd H2 cd (.dK (putK cvs (Sum.inl (g+1)) (.ref c)))) nd'=some (.dK kvs):=by rw[ah hnc];exact hn2
   have hp3:(upd H2 cd (.dK (putK cvs (Sum.inl (g+1)) (.ref c)))) p=some (.ins CF dx fs):=by rw[ah npc];exact hp2
   have ht3:(upd H2 cd (.dK (putK cvs (Sum.inl (g+1)) (.ref c)))) t=some (.tup [.str "new",.str x,.str y,.str z]):=by rw[ah ntc];exact ht2
   generalize upd H2 cd (.dK (putK cvs (Sum.inl (g+1)) (.ref c)))=H3 at k3 hn3 hp3 ht3 q1 |-
   exact⟨_,rfl,m,CM,dm,_,_,rfl,k3,T.cl,T.nG,hM2.greatest,_,rfl,p,CF,dx,fs,_,rfl,hp3,U.cl,U.nN,hff.numbers,_,rfl,t,_,1,_,rfl,rfl,SqT.of ht3,rfl,nd',_,rfl,DPut.k (k:=Sum.inr x) hn3 (cx (by omega)),q1⟩
end K51
namespace L2
open PySem PySem.Spec PyProof.Rows
theorem a4o {prog:Program}{w:World}{A:Around}{R:Result->Shared->Prop}{I:Addr}{fp wr:List Addr}{n:Nat}{P:Nat->Value->Prop}{St:Nat->Heap->Prop}(W:Walks prog w A.in1 I fp wr n P St) (bt:Nat->Nat->Bool) (hcmp:CmpOf prog w A.in1 .Gt P bt) (S:Addr) (hSf:S∉fp) (kw:List (Str×Value)) :
   ∀(k j:Nat) (s:Shared) (vb:Value) (c:Nat),n - (j+1)=k->j+1<=n->St (j+1) s.heap->P (argBest bt j) vb->s.heap.get? S=some { cls:=.type "list",data:=.seq #[vb,vb] c }->
     (∀(v:Value) (h':Heap) (tk:Nat),P (argBest bt (n - 1)) v->(∀(b:Addr) (o:Obj),b∉wr->b≠S->s.heap.get? b=some o->h'.get? b=some o)->R (.ok (.ret v)) { heap:=h',gens:=s.gens,drawn:=s.drawn,toks:=tk,os:=s.os })->
     codeAny (model prog w) A (.builtin "max.loop" ⟨[.ref I,.none,.ref S],kw⟩) R s:=by
 have hSw:S∉wr:=fun h=>hSf (W.sub S h)
 have hname:toString "max" ++ toString ".loop" = "max.loop" := by decide
 have s0:(#[]:Array Value).size<=sizeLine+1:=by decide
 have s2:∀v:Value,(#[v,v]:Array Value).size<=sizeLine:=fun v=>show 2<=sizeLine by decide
 have s21:∀v:Value,(#[v,v]:Array Value).size<=sizeLine+1:=fun v=>show 2<=sizeLine+1 by decide
 intro k
 induction k with
 | zero =>
   intro j s vb c hk hj hst hPb hS hR
   have hin:n=j+1:=by omega
   refine BP FJ ?_
   rw[Br CB]
   refine Aa (BA hS rfl ?_)
   refine Aa (Ds (W.done s _ _ (hin ▸ hst) fun h' tk hk'=>?_))
   have hS':=hk' S _ hSw hS
   refine Aa (DC hS' rfl (Aa (Ee (Ae (hR vb _ tk ?_ ?_)))) (s2 vb) s0)
   . rw[hin];exact hPb
   . intro b o hbw hbS e
     exact (Bd _ _ (AO hbS)).trans (hk' b o hbw e)
 | succ k ih =>
   intro j s vb c hk hj hst hPb hS hR
   have hlt:j+1<n:=by omega
   refine BP FJ ?_
   rw[Br CB]
   refine Aa (BA hS rfl ?_)
   refine Aa (Ds (W.item (j+1) s _ _ hlt hst fun v h' tk hP hst' hk'=>?_))
   have hS':=hk' S _ hSw hS
   refine Aa (Ae (Aa (Ds (AZ (Aa (hcmp (j+1) (argBest bt j) v vb _ _ _ hP hPb (Aa (AZ (BH (Aa (Ee (Ae ?_))))))))))))
   show wpAny _ _ (if bt (j+1) (argBest bt j)=true then _ else _) _ _ _
   cases hb:bt (j+1) (argBest bt j) with
   | false =>
     rw[if_neg Af]
     refine Aa (Ee (Ae ?_))
     refine⟨Cd CB _,ih (j+1) _ vb c (by omega) hlt hst' ?_ hS' fun v' h'' tk'' hP' hk''=>hR v' h'' tk'' hP' fun b o hbw hbS e=>hk'' b o hbw hbS (hk' b o hbw e)⟩
     show P (if bt (j+1) (argBest bt j)=true then j+1 else argBest bt j) vb
     rw[hb,if_neg Af];exact hPb
   | true =>
     rw[if_pos rfl]
     refine Aa (DC hS' rfl (Aa (Ee (Ae ?_))) (s2 vb) (s21 v))
     refine⟨Cd CB _,ih (j+1) _ v _ (by omega) hlt (W.frame (j+1+1) h' _ hst' fun b hbf o e=>(Bd _ _ (show S≠b from fun z=>hSf (by rw[z];exact hbf))).trans e) ?_ (Bl _ hS' rfl) fun v' h'' tk'' hP' hk''=>hR v' h'' tk'' hP' fun b o hbw hbS e=>hk'' b o hbw hbS ((Bd _ _ (AO hbS)).trans (hk' b o hbw e))⟩
     show P (if bt (j+1) (argBest bt j)=true then j+1 else argBest bt j) v
     rw[hb,if_pos rfl];exact hP
theorem a1e {prog:Program}{w:World}{A:Around}{R:Result->Shared->Prop}{I:Addr}{fp wr:List Addr}{n:Nat}{P:Nat->Value->Prop}{St:Nat->Heap->Prop}(W:Walks prog w A.in1 I fp wr n P St) (bt:Nat->Nat->Bool) (hcmp:CmpOf prog w A.in1 .Gt P bt) (S:Addr) (hSf:S∉fp) (x:Str) (d:Value) {s:Shared}{c:Nat}(hst:St 0 s.heap)
   (hS:s.heap.get? S=some { cls:=.type "list",data:=.seq #[] c })
   (hR0:n=0->∀(h':Heap) (tk:Nat),(∀(b:Addr) (o:Obj),b∉wr->s.heap.get? b=some o->h'.get? b=some o)->R (.ok (.ret d)) { heap:=h',gens:=s.gens,drawn:=s.drawn,toks:=tk,os:=s.os })
   (hR:0<n->∀(v:Value) (h':Heap) (tk:Nat),P (argBest bt (n - 1)) v->(∀(b:Addr) (o:Obj),b∉wr->b≠S->s.heap.get? b=some o->h'.get? b=some o)->R (.ok (.ret v)) { heap:=h',gens:=s.gens,drawn:=s.drawn,toks:=tk,os:=s.os }) :
   codeAny (model prog w) A (.builtin "max.loop" ⟨[.ref I,.none,.ref S],[(x,d)]⟩) R s:=by
 have hSw:S∉wr:=fun h=>hSf (W.sub S h)
 have s0:(#[]:Array Value).size<=sizeLine:=by decide
 have s21:∀v:Value,(#[v,v]:Array Value).size<=sizeLine+1:=fun v=>show 2<=sizeLine+1 by decide
 refine BP FJ ?_
 rw[Br CB]
 refine Aa (BA hS rfl ?_)
 by_cases hn:0<n
 . refine Aa (Ds (W.item 0 s _ _ hn hst fun v h' tk hP hst' hk'=>?_))
   have hS':=hk' S _ hSw hS
   refine Aa (Ae (Aa (DC hS' rfl (Ae ?_) s0 (s21 v))))
   refine⟨Cd CB _,a4o W bt hcmp S hSf _ (n - (0+1)) 0 _ v _ rfl hn (W.frame (0+1) h' _ hst' fun b hbf o e=>(Bd _ _ (show S≠b from fun z=>hSf (by rw[z];exact hbf))).trans e) hP (Bl _ hS' rfl) fun v' h'' tk'' hP' hk''=>hR hn v' h'' tk'' hP' fun b o hbw hbS e=>hk'' b o hbw hbS ((Bd _ _ (AO hbS)).trans (hk' b o hbw e))⟩
 . have hn0:n=0:=by omega
   refine Aa (Ds (W.done s _ _ (by rw[hn0];exact hst) fun h' tk hk'=>?_))
   exact Aa (CH (Ae (hR0 hn0 h' tk hk')))
theorem xx {prog:Program}{w:World}{A:Around}{E:Value->Shared->Prop}{s:Shared}{x d:Value}{Q:Value->Shared->Prop}
   (h:wpAny (model prog w) A.in1 (pyIter x) (fun it s₂=>∃I fp wr n P St bt,it=.ref I/\Walks prog w A.in1 I fp wr n P St/\St 0 s₂.heap/\(∀b∈fp,b<s₂.heap.objs.size)/\CmpOf prog w A.in1 .Gt P bt/\
     (n=0->∀(h':Heap) (tk:Nat),(∀(b:Addr) (o:Obj),b∉wr->s₂.heap.get? b=some o->h'.get? b=some o)->Q d { heap:=h',gens:=s₂.gens,drawn:=s₂.drawn,toks:=tk,os:=s₂.os })/\
     (0<n->∀(v:Value) (h':Heap) (tk:Nat),P (argBest bt (n - 1)) v->(∀(b:Addr) (o:Obj),b∉wr->s₂.heap.get? b=some o->h'.get? b=some o)->Q v { heap:=h',gens:=s₂.gens,drawn:=s₂.drawn,toks:=tk,os:=s₂.os })) E s) :
   wpAny (model prog w) A (call (.builtin "max") [x] [("default",d)]) Q E s:=by
 have ha:argsOk "max" ⟨[x],[("default",d)]⟩:=rfl
 have hk:checkBuiltinCall "max" ⟨[x],[("default",d)]⟩=pure ():=by
   unfold checkBuiltinCall
   rw[F.kind_max]
   unfold argsOk at ha
   cases hs:Manifest.signature? "max" with
   | none=>rfl
   | some sig=>rw[hs] at ha;exact ha
 refine GZ (Ex F.plain_max F.entry_max ?_)
 rw[hk]
 refine Ae ?_
 have hb:Builtin.Builtins.bindParams "max" ["key","default"] 0 ⟨[],[("default",d)]⟩=pure [none,some d]:=rfl
 refine Aa (ES hb ?_)
 refine Aa (Ae (Aa (thn h fun it s₂ h₂=>?_)))
 obtain⟨I,fp,wr,n,P,St,bt,rfl,W,hst,hfp,hcmp,h0,h1⟩:=h₂
 have hSf:s₂.heap.objs.size∉fp:=fun z=>Bi _ (hfp _ z)
 refine Aa (AL (Ae ?_) (show 0<=sizeLine by decide))
 refine⟨Cd CB _,a1e W bt hcmp s₂.heap.objs.size hSf _ d (W.frame 0 s₂.heap _ hst fun b _ o e=>Ad _ e) (An _ rfl) (fun hn h' tk hk=>?_) (fun hn v h' tk hP hk=>?_)⟩
 . exact h0 hn h' tk fun b o hbw e=>hk b o hbw (Ad _ e)
 . exact h1 hn v h' tk hP fun b o hbw e=>hk b o hbw (Az (Ap e)) (Ad _ e)
section
variable {X:Cx}
noncomputable def a0y (K:Ab):R2:=fun x y H Q=>∃(a:Addr) (ns:List Int) (d:Int),x=.ref a/\y=.int d/\SqL K H a (ns.map V.int)/\(ns=[]->Q (.int d) H)/\∀M∈ns,(∀n∈ns,n<=M)->Q (.int M) H
theorem a8b {K:Ab}{p pos kpos:Pos}{e c:Expr}{te tc:TE}(hK:X.K=K) (hc:X.calm=true) (hg:Gl X "max") (hm:X.mg "max" = none) (ha:QE X e te) (hd:QE X c tc) (hall:(backToKw pos (keywordEach [⟨some "default",c,kpos⟩] X.env)).all (·.1.isSome)=true:=by rfl) (hks:(backToKw pos (keywordEach [⟨some "default",c,kpos⟩] X.env)).filterMap (·.1)=[("default" : Str)]:=by rfl)
   (he:starEach [e] X.env=(false,eval e X.env)::starEach [] X.env:=by rfl)
   (hpl:(backTo pos (starEach [e] X.env)).any (·.1)=false:=by rfl) (hpk:(backToKw pos (keywordEach [⟨some "default",c,kpos⟩] X.env)).any (·.1.isNone)=false:=by rfl) :
   QE X (.Call (.Name "max" p) [e] [⟨some "default",c,kpos⟩] pos) (tOp (a0y K) te tc):=by
 subst hK
 refine⟨?_⟩
 intro pins s σ H Q I h
 refine Dg (ii I hg hm PyProof.Rows.Boot.max ?_ (by decide) (by decide))
 refine PyProof.Rows.callWith_builtin_kwB hpl hpk (PyProof.Rows.evalArgs_kw2 hall ?_ he)
 have A1:PA X [e] (br te tNil):=cu ha.run ij he
 have K1:PK X [⟨some "default",c,kpos⟩] (br tc tNil):=a8s hd.run a99
 refine thn (A1 pos pins s σ H (fun xs H1=>match xs with | [x]=>tc σ H1 fun y H2=>a0y X.K x y H2 Q|_=>False) I h) fun us s1 ⟨vs,H1,I1,r,q⟩=>?_
 obtain⟨x,rfl⟩:∃x,vs=[x]:=by
   match vs,q with
   | [x],_=>exact⟨x,rfl⟩
 refine thn (K1 pos pins s1 σ H1 (fun ys H2=>match ys with | [y]=>a0y X.K x y H2 Q|_=>False) I1 q) fun ws s2 ⟨zs,H2,I2,rz,q2⟩=>?_
 obtain⟨y,rfl⟩:∃y,zs=[y]:=by
   match zs,q2 with
   | [y],_=>exact⟨y,rfl⟩
 obtain⟨a,ns,d,rfl,rfl,hq,q0,q1⟩:=q2
 rw[hks]
 obtain⟨u,rfl,ru⟩:=r.one
 cases ru
 obtain⟨u2,rfl,t2,rfl⟩:=rz.one
 show wpAny _ _ (call (.builtin "max") [.ref a] [("default",.int d t2)]) _ _ _
 obtain⟨its,rv,p',_⟩:=I2.list hq
 have hl:its.length=ns.length:=by have:=rv.length;rw[Ac] at this;omega
 have hat:∀(i:Nat) (v:Value),its.toArray[i]? = some v->∃t,v=.int (ns.getD i 0) t:=fun i v hv=>by
   have hv':its[i]? = some v:=by simpa using hv
   have hi:i<ns.length:=by rw[<- hl];exact (Aq.mp hv').1
   obtain⟨w',hw,rw'⟩:=rv.get (show (ns.map V.int)[i]? = some (.int ns[i]) by rw[Ak,Ai hi];rfl)
   rw[hv'] at hw
   cases hw
   obtain⟨t,rfl⟩:=rw'
   exact⟨t,by rw[Cn,Ai hi];rfl⟩
 have hax:a<s2.heap.objs.size:=by obtain⟨o,ho,_⟩:=p'.isList;exact Ap ho
 refine xx (CQ p'.isList ⟨s2.heap.objs.size,_,_,_,_,_,fun i j=>decide (ns.getD i 0>ns.getD j 0),rfl,Iu (show X.A.in1.handled=none from I2.ok.hd hc) s2.heap.objs.size a (Az hax) its.toArray,⟨?_,?_⟩,fun b hb=>?_,CmpOf.ints_gt (fun i=>ns.getD i 0) hat,fun hn h' tk hk=>?_,fun hn v h' tk hv hk=>?_⟩)
 . exact⟨_,An _ rfl,rfl,rfl⟩
 . exact p'.isList.push _
 . rw[Bg]
   simp only[Al,AN,or_false] at hb
   rcases hb with rfl|rfl
   . exact Cb _
   . exact Cw hax
 . rw[Ar] at hn
   refine⟨.int d,H2,I2.kept (t':=tk) fun b o hbo=>hk b o (by simp only[Al,AN,or_false];exact Az (Ap hbo)) (Ad _ hbo),⟨t2,rfl⟩,q0 (AY (by omega))⟩
 . obtain⟨t,rfl⟩:=hat _ _ hv
   have hb:=argBest_gt (fun i=>ns.getD i 0) (its.toArray.size - 1)
   rw[Ar] at hb hv hn
   have hi:argBest (fun i j=>decide (ns.getD i 0>ns.getD j 0)) (its.length - 1)<ns.length:=by have:=hb.1;omega
   refine⟨.int _,H2,I2.kept (t':=tk) fun b o hbo=>hk b o (by simp only[Al,AN,or_false];exact Az (Ap hbo)) (Ad _ hbo),⟨t,rfl⟩,q1 _ ?_ fun n hn'=>?_⟩
   . rw[Ar,Cn,Ai hi];exact De hi
   . obtain⟨j,hj,rfl⟩:=EE hn'
     have:=hb.2 j (by omega)
     rw[Cn,Ai hj] at this
     rw[Ar]
     simpa using this
theorem oy (hc:X.calm=true):MtR X "str.index" (fun x vs H Q=>∃z y,x=.str z/\vs=[.str y]/\0<=IS z y/\Q (.int (IS z y)) H):=by
 intro pins s σ H x vs v us Q I rx rv h
 obtain⟨z,y,rfl,rfl,hz,q⟩:=h
 obtain⟨t,rfl⟩:=rx
 obtain⟨u,rfl,ru⟩:=rv.one
 obtain⟨t2,rfl⟩:=ru
 refine index_or (I.ok.hd hc) (fun hn=>absurd hz (by omega)) fun _ _=>⟨.int _,H,I.tok _,⟨_,rfl⟩,q⟩
noncomputable def AlV (K:Ab) (H:Hp) (v v':V):Prop:=(a6s v=true/\v'=v)\/∃d,Dp K H v d/\Dp K H v' d/\EqOk d
inductive rNeAl (K:Ab) (x y:V) (H:Hp) (Q:VK):Prop
 | mk (a b:Addr) (kvs kws:List (Key×V)) (h1:x=.ref a) (h2:y=.ref b) (h3:H a=some (.dK kvs)) (h4:H b=some (.dK kws)) (h5:kvs.length=kws.length) (h6:∀k v,valV kvs k=some v->∃v',valV kws k=some v'/\AlV K H v v') (q:Q (.bl false) H):rNeAl K x y H Q
theorem zc {K:Ab}(hK:X.K=K) (hu:X.A.units+32<cLine):OpR X (compareOp .NotEq) (rNeAl K):=by
 subst hK
 intro pins s σ H x y v u Q I rx ry h
 obtain⟨a,b,kvs,kws,rfl,rfl,ha,hb,hln,hs,q⟩:=h
 cases rx
 cases ry
 obtain⟨z,da,va,ra,dda⟩:=gt I.hok (.inl ha)
 obtain⟨_,db,vb,rb,ddb⟩:=gt I.hok (.inl hb)
 have hl:va.length=vb.length:=by rw[<- ra.length,<- rb.length];exact hln
 refine PySem.W.keq_ne (r:=true) da db dda ddb (by omega) (fun _=>?_) ⟨.bl false,H,I,?_,q⟩
 . refine wj va fun p hp=>?_
   have e1:=oz (k:=p.1) (v:=p.2) (a0u dda) hp
   have r1:=ra.val p.1
   have r2:=rb.val p.1
   rw[e1] at r1
   cases hv:valV kvs p.1 with
   | none=>rw[hv] at r1;exact r1.elim
   | some v =>
     rw[hv] at r1
     obtain⟨v',hv',al⟩:=hs _ _ hv
     rw[hv'] at r2
     cases hy:valueAt vb p.1 with
     | none=>rw[hy] at r2;exact r2.elim
     | some y =>
       rw[hy] at r2
       refine⟨y,rfl,?_⟩
       rcases al with⟨h1,rfl⟩|⟨d,h1,h2,ok⟩
       . exact a52 h1 r1 r2
       . obtain⟨as,q1⟩:=Dp.reads I h1 r1
         obtain⟨bs,q2⟩:=Dp.reads I h2 r2
         have:=SeqAt.eqAt_reads d d X.A.in1 s p.2 y as bs q1 q2 ok.1 ok.1 (by have:=ok.2;have:X.A.in1.units=X.A.units+1:=rfl;rw[IR];omega)
         rw[ID d ok.1] at this
         exact this
 . rw[hl]
   simp[RelV]
end
noncomputable def a1x (K:Ab):R2:=fun x y H Q=>∃a b xs ys,x=.ref a/\y=.ref b/\SqT K H a xs/\SqT K H b ys/\xs≠[]/\ys≠[]/\xs.length+ys.length<=sizeLine/\∀p,H p=none->Q (.ref p) (upd H p (.tup (xs++ys)))
theorem md {X:Cx}{K:Ab}(hK:X.K=K):OpR X (binaryOp .Add) (a1x K):=by
 subst hK
 intro pins s σ H x y v u Q I rx ry h
 obtain⟨a,b,xs,ys,rfl,rfl,ha,hb,hx,hy,hz,q⟩:=h
 exact oa pins s σ H (.ref a) (.ref b) v u Q I rx ry ⟨a,b,xs,ys,rfl,rfl,ha,hb,hx,hz,fun z=>absurd z hy,fun _ p hp=>q p hp⟩
theorem a5i {X:Cx}{K:Ab}(hK:X.K=K):SlR X (a0e K):=by subst hK;exact i6
theorem en {X:Cx}:cy X (.type "int") (fun xs H Q=>∃b:Bool,xs=[.bl b]/\Q (.int (if b=true then 1 else 0)) H):=by
 intro pins s σ H xs us Q I r h
 obtain⟨b,rfl,q⟩:=h
 obtain⟨u,rfl,ru⟩:=r.one
 cases ru
 exact PySem.call_int_bool ⟨.int _,H,I.tok _,⟨_,rfl⟩,q⟩
theorem a7n {X:Cx}{K:Ab}(hK:X.K=K):OpR X (compareOp .In) (rIn K false):=by subst hK;exact jb
theorem a7o {X:Cx}{K:Ab}(hK:X.K=K):OpR X (compareOp .NotIn) (rIn K true):=by subst hK;exact lc
theorem wb {X:Cx}{K:Ab}{tg l:Expr}{tl:TE}(hK:X.K=K) (hl:QE X l tl):QI X tg l (a1h K tl):=by subst hK;exact gc hl
theorem zi {X:Cx}{K:Ab}{tg l:Expr}{tl:TE}(hK:X.K=K) (hl:QE X l tl):QI X tg l (iTup K tl):=by subst hK;exact aa6 hl
theorem pj {X:Cx}{K:Ab}(hK:X.K=K):SlR X (rSlL K):=by subst hK;exact a7u
end L2
namespace K51
open PySem PySem.Spec L2 Mir
variable {P:Program}{w:World}{K:Ab}{mg:Str->Option Value}{base:Heap}{f g gS gN gA gW gI gL gF gO gT gB C fI CM CF fJ gD gR gU gH gM gE gC gK gP gX:Addr}{fd gd dS dN dA dW dI dL dF dO dT dB dD dR dU dH dM dE dC dK dP dX:FuncData}
structure MNew (K:Ab) (CM CF:Addr) (bs:List Nat) (G H:Hp) (m dx:Addr) (pcs:List Prc) (pc:Prc) (j:Nat) (kvs cvs:List (Key×V)) (due:Pre×Nat) (ns:List Int) (G1:Hp) (pd fl p dxp q1 nd cd pr bd:Addr) (prs:List Addr) (fsm fs:List (Str×V)) (zs:List Str) (g:Int):Prop where
 g1:Same G G1
 gH:Same G1 H
 n1:G1 m=none
 n2:G1 p=none
 n3:G1 nd=none
 n4:G1 cd=none
 n5:G1 fl=none
 nc:nd≠cd
 mp:m≠p
 hps:Paired (PrcAt K G1 bs) prs pcs
 hpr:prs[j]? = some pr
 hpd:G1 pd=some (.dK ((byK (pcs.map (·.name)) prs).map kk))
 hbd:∃v0 v1 v2 v3 v4,G1 pr=some (.tup [v0,v1,v2,v3,v4,.ref bd])
 body:ListX K G1 bs bd pc.body
 hm:H m=some (.ins CM dx fsm)
 mf:MFs fsm pd fl cd g false
 lm:fsm.length<=5
 hfl:H fl=some (.lst [.ref p])
 hp:H p=some (.ins CF dxp fs)
 ff:FFs fs pr q1 nd ""
 lf:fs.length<=4
 hq1:SqT K H q1 ((flat due.1++[(due.2:Int)]).map V.int)
 hnd:H nd=some (.dK ((gf kvs zs).map kk))
 zn:zs.Nodup
 zm:∀y,y∈zs↔bx y=true/\y∈allW bs pc
 hcd:H cd=some (.dK cvs)
 g0:ns=[]->g=0
 gm:ns≠[]->g∈ns/\∀n∈ns,n<=g
inductive spMInit (K:Ab) (CM CF:Addr) (bs:List Nat) (vs:List V) (H:Hp) (Q:VK) (E:XK):Prop
 | mk (G:Hp) (m dx l q0 nm hd:Addr) (x:Str) (ts:List Addr) (pcs:List Prc) (j:Nat) (pc:Prc) (xs:List Str) (kvs cvs:List (Key×V)) (ns:List Int) (pp:Pre) (k:Nat) (due:Pre×Nat)
     (h0:vs=[.ref m,.ref l,.str x,.ref q0,.ref nm,.ref hd]) (eG:Same G H) (hm:G m=none) (hm1:H m=some (.ins CM dx []))
     (hl:G l=some (.lst (ts.map V.ref))) (hp:Paired (PrcAt K G bs) ts pcs) (hn:(pcs.map (·.name)).Nodup) (h10:pcs.length<=10) (hj:pcs[j]? = some pc) (hx:pc.name=x) (hok:PrcOk bs xs pc)
     (hq:SqT K G q0 ((flat pp++[(k:Int)]).map V.int)) (hst:∀G' bd,ListX K G' bs bd pc.body->∃e,Stands G' bd pp k due e) (hpp:pp.length<=40) (hnm:G nm=some (.dK kvs)) (hhd:G hd=some (.dK cvs)) (hns:cvs.map (·.1)=ns.map Sum.inl)
     (q:∀G1 pd fl p dxp q1 nd cd pr bd prs fsm fs zs g H',MNew K CM CF bs G H' m dx pcs pc j kvs cvs due ns G1 pd fl p dxp q1 nd cd pr bd prs fsm fs zs g->Q .non H'):spMInit K CM CF bs vs H Q E
theorem a6d:("procedures" : Str) ≠ "frames" /\ ("procedures" : Str) ≠ "cells" /\ ("procedures" : Str) ≠ "greatest" /\ ("procedures" : Str) ≠ "fallen" /\ ("frames" : Str) ≠ "cells" /\ ("frames" : Str) ≠ "greatest" /\ ("frames" : Str) ≠ "fallen" /\ ("cells" : Str) ≠ "greatest" /\ ("cells" : Str) ≠ "fallen" /\ ("greatest" : Str) ≠ "fallen" := by decide +kernel
theorem a7y:∀m∈ld,m≠("procedures" : Str)/\m≠("frames" : Str)/\m≠("cells" : Str)/\m≠("greatest" : Str)/\m≠("fallen" : Str):=by decide +kernel
noncomputable def mf1 (pd:Addr):List (Str×V):=putF "procedures" (.ref pd) []
noncomputable def mf2 (pd fl:Addr):List (Str×V):=putF "frames" (.ref fl) (mf1 pd)
noncomputable def mf3 (pd fl cd:Addr):List (Str×V):=putF "cells" (.ref cd) (mf2 pd fl)
noncomputable def mf4 (pd fl cd:Addr) (g:Int):List (Str×V):=putF "greatest" (.int g) (mf3 pd fl cd)
noncomputable def mf5 (pd fl cd:Addr) (g:Int):List (Str×V):=putF "fallen" (.bl false) (mf4 pd fl cd g)
theorem jr (pd fl cd:Addr) (g:Int):(mf1 pd).length<=1/\(mf2 pd fl).length<=2/\(mf3 pd fl cd).length<=3/\(mf4 pd fl cd g).length<=4/\(mf5 pd fl cd g).length<=5:=by
 have h1:=bm "procedures" (.ref pd) []
 have h2:=bm "frames" (.ref fl) (mf1 pd)
 have h3:=bm "cells" (.ref cd) (mf2 pd fl)
 have h4:=bm "greatest" (.int g) (mf3 pd fl cd)
 have h5:=bm "fallen" (.bl false) (mf4 pd fl cd g)
 simp only[DD] at h1
 unfold mf5 mf4 mf3 mf2 mf1 at*
 omega
theorem aa0 (pd fl cd:Addr) (g:Int):MFs (mf5 pd fl cd g) pd fl cd g false:=by
 obtain⟨n1,n2,n3,n4,n5,n6,n7,n8,n9,n10⟩:=a6d
 refine⟨?_,?_,?_,?_,?_,by have:=jr pd fl cd g;omega,fun m hm=>?_⟩
 . unfold mf5 mf4 mf3 mf2 mf1;rw[am,if_neg n4,am,if_neg n3,am,if_neg n2,am,if_neg n1,am,if_pos rfl]
 . unfold mf5 mf4 mf3 mf2;rw[am,if_neg n7,am,if_neg n6,am,if_neg n5,am,if_pos rfl]
 . unfold mf5 mf4 mf3;rw[am,if_neg n9,am,if_neg n8,am,if_pos rfl]
 . unfold mf5 mf4;rw[am,if_neg n10,am,if_pos rfl]
 . unfold mf5;rw[am,if_pos rfl]
 . obtain⟨m1,m2,m3,m4,m5⟩:=a7y m hm
   unfold mf5 mf4 mf3 mf2 mf1
   rw[am,if_neg m5,am,if_neg m4,am,if_neg m3,am,if_neg m2,am,if_neg m1];rfl
theorem a3v:∀{ns:List Str}{ts:List Addr}{j:Nat}{n:Str}{t:Addr},ns.Nodup->ns[j]? = some n->ts[j]? = some t->valV ((byK ns ts).map kk) (Sum.inr n)=some (.ref t)
 | [],_,_,_,_,_,h,_=>by simp at h
 | _::_,[],_,_,_,_,_,h=>by simp at h
 | m::ns,u::ts,0,n,t,hn,h1,h2=>by
   simp at h1 h2
   subst h1;subst h2
   unfold valV byK
   simp[kk]
 | m::ns,u::ts,j+1,n,t,hn,h1,h2=>by
   have h1':ns[j]? = some n:=by simpa using h1
   have h2':ts[j]? = some t:=by simpa using h2
   have ne:m≠n:=fun z=>(Bb.mp hn).1 (by rw[z];exact AQ h1')
   have ih:=a3v (Bb.mp hn).2 h1' h2'
   unfold valV byK at ih |-
   simp only[List.zip_cons_cons,AA,BC,kk]
   rw[decide_eq_false (fun z=>ne (Dj z))]
   exact ih
theorem scMInit:FnScope ["self","program","name","path","values","heap"] ["self","program","name","path","values","heap"] (au w8):=⟨rfl,rfl,rfl,by decide +kernel,rfl,by decide +kernel,by decide +kernel⟩
theorem a4z {n:Nat}{bs:List Nat}(C:Con K mg w) (T:TxM K mg CM fI) (U:TxF K mg CF fJ) (F:Fun K "__init__" "Machine.__init__" w8 f fd) (GO:FnOk P w K mg base CX0 n gO dO ["deeds"] (spCopy K bs)) (cO:Cal K mg "own_deeds" gO dO ["deeds"]) (GB:FnOk P w K mg base CX0 1 gB dB ["program"] (spBy K)) (cB:Cal K mg "by_names" gB dB ["program"])
   (GI:FnOk P w K mg base CX0 n fJ dI ["self","procedure","path","numbers","receiver"] (spFInit K CF bs)) (bI:Binds K dI ["self","procedure","path","numbers","receiver"] []):FnOk P w K mg base CX0 (n+1+1) f fd ["self","program","name","path","values","heap"] (spMInit K CM CF bs):=by
 refine F.okQ scMInit (fun vs H Q E h=>?_) (fun cdv A outer s0 H vs Q E hr h=>?_)
 . obtain⟨_,_,_,_,_,_,_,_,_,_,_,_,_,_,_,_,_,_,_,rfl,_⟩:=h;rfl
 obtain⟨G,m,dx,l,q0,nm,hd,x,ts,pcs,j,pc,xs,kvs,cvs,ns,pp,k,due,rfl,eG,hm,hm1,hl,hp,hnn,h10,hj,hx,hok,hq,hst,hpp,hnm,hhd,hns,q⟩:=h
 have nd:=scMInit.nd
 have hu1:=dn hr
 have hr1:=hr.mono (j:=1) (by omega)
 have hrn:=hr.mono (j:=n) (by omega)
 refine⟨_,ae (ee (K:=K) rfl (qv 0) (aq GB hr1 rfl cB.name cB.keep cB.bind .nil ap (bv (kd (gc (qv 1)) (fun _ _ _ _=>om) (fun _ _ _ _=>(ax (md (K:=K) rfl) (cj (a5i (K:=K) rfl) (qv 0) dj (cr ab)) (cf (bi (aq GO hrn rfl cO.name cO.keep cO.bind .nil ap (az (af (ixTK (K:=K) rfl) (qv 0) ab (fun _ _=>rfl)) a0)) a0))))) a0)))
   (ae (ee (K:=K) rfl (qv 0) (bw (bi (yq U.mkC GI hr rfl U.mgC bI .nil ap (az (fj hu1 (b7 (K:=K) rfl (qv 0)) (qv 2) (fun _ _=>rfl)) (aj (qv 3) (aj (qv 4) (c6 a0))))) a0)))
   (ae (ee (K:=K) rfl (qv 0) (be ig rfl C.dict BE (aj (qv 5) a0)))
   (ae (ee (K:=K) rfl (qv 0) (a8b (K:=K) rfl rfl rfl C.max (be (sk rfl) rfl C.list Bv (aj (qv 5) a0)) ab))
   (ai (ee (K:=K) rfl (qv 0) ge))))),?_⟩
 have hpl:=AD hp
 refine⟨_,rfl,l,rfl,⟨_,SqL.of (eG _ _ hl)⟩,?_⟩
 have gR:∀{D:Addr} {H2:Hp},H D=none->Same H H2->Same G (rm (fun c=>c=D\/c=m) H2):=fun {D H2} hD e b o z=>by
   rw[cb (fun y=>y.elim (ao (eG _ _ z) hD) (ao z hm))];exact e _ _ (eG _ _ z)
 refine j9 (ts.map V.ref) pcs (fun D G' y pc=>∃b,y=V.ref b/\PrcAt K (rm (fun c=>c=D\/c=m) G') bs b pc) id ia (SqL.of (eG _ _ hl)) (by rw[Ac];omega) (by rw[Ac];exact hpl.symm) (fun D G1 G2 y x z e=>?_) (fun D hD i x r hx hr' H2 e2 hD2 Q' q'=>?_) (fun D H2 ys hD e2 hD2 hpt=>?_)
 . obtain⟨b,rfl,hb⟩:=z
   exact⟨b,rfl,hb.same (xw e (.inl rfl))⟩
 . rw[Ak] at hx
   obtain⟨t,ht,rfl⟩:=Be.mp hx
   obtain⟨r',hr2,at',t1,t2,f1,p1,f2,p2,bd,px⟩:=Paired.nth hp ht
   rw[hr'] at hr2;cases hr2
   have eH:=eG.trans e2
   refine⟨_,rfl,_,rfl,t,_,rfl,SqT.of (eH _ _ px.tup),fun u1 H3 e3 hu=>?_⟩
   have eH3:=eH.trans e3
   refine⟨_,rfl,t,_,5,_,rfl,rfl,SqT.of (eH3 _ _ px.tup),rfl,.mk (fun c=>c=D\/c=m) bd r.body rfl (fun c z y=>?_) (px.body.same (gR hD (e2.trans e3))) fun l' H4 e4 h4=>?_⟩
   . rcases z with rfl|rfl
     . exact hD2 (e3.free y)
     . rw[(e2.trans e3) _ _ hm1] at y;cases y
   refine⟨(show 1<=sizeLine by decide),fun u2 hu2=>?_⟩
   have s5:=ad hu2 (.tup [V.ref l'])
   have k5:(upd H4 u2 (.tup [V.ref l'])) u2=some (.tup [V.ref l']):=aa
   generalize upd H4 u2 (.tup [V.ref l'])=H5 at s5 k5 |-
   refine⟨u1,u2,_,_,rfl,rfl,(e4.trans s5).seqT hu,SqT.of k5,Il _ _,Il _ _,bn (show 5+1<=1000 by decide),fun u3 hu3=>?_⟩
   have e6:=ad hu3 (.tup (cutV [V.str r.name,V.ref at',V.str r.res,V.ref t1,V.ref t2,V.ref bd] none (some 5)++[V.ref l']))
   have h6:(upd H5 u3 (.tup (cutV [V.str r.name,V.ref at',V.str r.res,V.ref t1,V.ref t2,V.ref bd] none (some 5)++[V.ref l']))) u3=some (.tup [V.str r.name,V.ref at',V.str r.res,V.ref t1,V.ref t2,V.ref l']):=aa
   have e25:Same H2 H5:=(e3.trans e4).trans s5
   have nu:¬ (u3=D\/u3=m):=by
     rintro (rfl|rfl)
     . exact hD2 (e25.free hu3)
     . rw[(e2.trans e25) _ _ hm1] at hu3;cases hu3
   generalize upd H5 u3 (.tup (cutV [V.str r.name,V.ref at',V.str r.res,V.ref t1,V.ref t2,V.ref bd] none (some 5)++[V.ref l']))=H6 at e6 h6 |-
   have e26:Same H2 H6:=e25.trans e6
   have gg:=gR hD (e2.trans e26)
   refine q' (.ref u3) H6 e26 ⟨u3,rfl,at',t1,t2,f1,p1,f2,p2,l',?_,gg _ _ px.pt,gg _ _ px.t1,gg _ _ px.t2,px.f1.same gg,px.p1.same gg,px.f2.same gg,px.p2.same gg,h4.same (cq (s5.trans e6)),px.okn,px.okr,px.okp,px.ok1,px.ok2,px.l1,px.l2⟩
   rw[cb nu];exact h6
 rw[Dx] at hpt
 obtain⟨us,rfl,hpp⟩:=gh (R:=fun b pc=>PrcAt K (rm (fun c=>c=D\/c=m) H2) bs b pc) hpt
 have hul:=AD hpp
 have hus:Paired (fun t n=>∃vs,H2 t=some (.tup (.str n::vs))) us (pcs.map (·.name)):=by
   have:∀{us:List Addr} {pcs:List Prc},Paired (PrcAt K (rm (fun c=>c=D\/c=m) H2) bs) us pcs->Paired (fun t n=>∃vs,H2 t=some (.tup (.str n::vs))) us (pcs.map (·.name)):=fun {us pcs} h=>by
     induction h with
     | nil=>exact .nil
     | cons h1 _ ih=>obtain⟨_,_,_,_,_,_,_,_,px⟩:=h1;exact .cons ⟨_,ej _ _ px.tup⟩ ih
   exact this hpp
 refine .mk D us (pcs.map (·.name)) rfl hD2 hus hnn (by omega) fun pd H3 e3 hpd=>?_
 refine⟨_,rfl,m,CM,dx,[],rfl,(e2.trans e3) _ _ hm1,T.cl,T.nP,(by decide),?_⟩
 have hm3:=(e2.trans e3) _ _ hm1
 have g1:Same G (rm (fun c=>c=m) H3):=fun b o z=>by rw[cb (X:=fun c=>c=m) (ao z hm)];exact (e2.trans e3) _ _ (eG _ _ z)
 have npd:pd≠m:=fun z=>by rw[z,hm3] at hpd;cases hpd
 have hpd1:rm (fun c=>c=m) H3 pd=some (.dK ((byK (pcs.map (·.name)) us).map kk)):=by rw[cb (X:=fun c=>c=m) npd];exact hpd
 have hps1:Paired (PrcAt K (rm (fun c=>c=m) H3) bs) us pcs:=Paired.mapP hpp fun _ _ z=>z.same fun b o y=>by
   obtain⟨y1,y2⟩:=gq y
   rw[cb (X:=fun c=>c=m) (fun z=>y1 (.inr z))];exact e3 _ _ y2
 have gH3:Same (rm (fun c=>c=m) H3) (upd H3 m (.ins CM dx (mf1 pd))):=fun b o z=>by
   obtain⟨y1,y2⟩:=gq z
   rw[ah y1];exact y2
 have nm1:rm (fun c=>c=m) H3 m=none:=by unfold rm;rw[if_pos rfl]
 have hm4:(upd H3 m (.ins CM dx (mf1 pd))) m=some (.ins CM dx (mf1 pd)):=aa
 change tSeq _ _ _ _ (upd H3 m (.ins CM dx (mf1 pd)))
 generalize rm (fun c=>c=m) H3=G1 at g1 hpd1 hps1 gH3 nm1
 generalize upd H3 m (.ins CM dx (mf1 pd))=H4 at gH3 hm4 |-
 clear hpt hpp hus hD2 hpd hm3 e2 e3
 have hjl:j<us.length:=by rw[hul];exact (Aq.mp hj).1
 have hpr:us[j]? = some us[j]:=Ai hjl
 generalize us[j]=pr at hpr
 obtain⟨pc',hpc',hPr⟩:=Paired.nth hps1 hpr
 rw[hj] at hpc';cases hpc'
 have hnj:(pcs.map (·.name))[j]? = some x:=by rw[Ak,hj];show some pc.name=_;rw[hx]
 have hg:=DGet.k (k:=Sum.inr x) (gH3 _ _ hpd1)
 rw[a3v hnn hnj hpr] at hg
 have lk1:(mf1 pd).lookup ("procedures" : Str)=some (.ref pd):=by unfold mf1;rw[am,if_pos rfl]
 obtain⟨at',t1,t2,f1,p1,f2,p2,bd,px⟩:=id hPr
 obtain⟨eo,hst'⟩:=hst G1 bd px.body
 have eGH:=g1.trans gH3
 refine⟨_,rfl,m,CM,dx,_,_,rfl,hm4,T.cl,T.nP,lk1,_,rfl,pd,.ref pr,rfl,hg,_,rfl,_,rfl,fun p dxp hpn hdn hne=>?_⟩
 have s5:Same H4 (upd (upd H4 dxp (.own p)) p (.ins CF dxp [])):=fun b o z=>by rw[ah (ao z hpn),ah (ao z hdn)];exact z
 refine .mk H4 p dxp pr q0 nm bd "" pc xs _ _ _ _ _ kvs pp k due eo rfl s5 hpn aa (hPr.same gH3) hok (gH3 _ _ px.tup) (eGH.seqT hq) (hst'.same gH3) hpp (eGH _ _ hnm) fun q1 nd' fs zs H5 e5 hp5 hff hfl hq1 hndn hnd hzn hzs hzm=>⟨rfl,?_⟩
 have hmp:m≠p:=fun z=>by rw[<- z,hm4] at hpn;cases hpn
 have hndG:H4 nd'=none:=s5.free hndn
 refine⟨(show 1<=sizeLine by decide),fun fl hfln=>?_⟩
 have s6:=ad hfln (.lst [V.ref p])
 have k6:(upd H5 fl (.lst [V.ref p])) fl=some (.lst [V.ref p]):=aa
 dsimp only
 generalize upd H5 fl (.lst [V.ref p])=H6 at s6 k6 |-
 obtain⟨l1,l2,_⟩:=jr pd fl fl 0
 have hm6:=(e5.trans s6) _ _ hm4
 refine⟨_,rfl,m,CM,dx,_,rfl,hm6,T.cl,T.nF,(by omega),?_⟩
 have hm7:(upd H6 m (.ins CM dx (mf2 pd fl))) m=some (.ins CM dx (mf2 pd fl)):=aa
 have up:∀{H':Hp} {fs':List (Str×V)} {b:Addr} {o:HO},b≠m->H' b=some o->(upd H' m (.ins CM dx fs')) b=some o:=fun hb z=>by rw[ah hb];exact z
 have upT:∀{H':Hp} {fs0 fs':List (Str×V)} {a:Addr} {ys:List V},H' m=some (.ins CM dx fs0)->SqT K H' a ys->SqT K (upd H' m (.ins CM dx fs')) a ys:=fun {H' fs0 fs' a ys} hp' h=>by
   rcases h with (h|⟨o,h⟩)|h
   . exact .inl (.inl (by rw[ah (fun z=>by rw[z,hp'] at h;cases h)];exact h))
   . exact .inl (.inr ⟨o,by rw[ah (fun z=>by rw[z,hp'] at h;cases h)];exact h⟩)
   . exact .inr h
 have upG:∀{H':Hp} {fs':List (Str×V)},Same G1 H'->Same G1 (upd H' m (.ins CM dx fs')):=fun {H' fs'} e b o z=>up (ao z nm1) (e _ _ z)
 have g7:Same G1 (upd H6 m (.ins CM dx (mf2 pd fl))):=upG ((gH3.trans e5).trans s6)
 have nfm:fl≠m:=fun z=>by rw[z,hm6] at k6;cases k6
 have k7:(upd H6 m (.ins CM dx (mf2 pd fl))) fl=some (.lst [V.ref p]):=up nfm k6
 have p7:(upd H6 m (.ins CM dx (mf2 pd fl))) p=some (.ins CF dxp fs):=up (AO hmp) (s6 _ _ hp5)
 have nnm:nd'≠m:=fun z=>by rw[z,hm4] at hndG;cases hndG
 have n7:(upd H6 m (.ins CM dx (mf2 pd fl))) nd'=some (.dK ((gf kvs zs).map kk)):=up nnm (s6 _ _ hnd)
 have q7:SqT K (upd H6 m (.ins CM dx (mf2 pd fl))) q1 ((flat due.1++[(due.2:Int)]).map V.int):=upT hm6 (s6.seqT hq1)
 change tSeq _ _ _ _ (upd H6 m (.ins CM dx (mf2 pd fl)))
 have nfl:G1 fl=none:=(gH3.trans e5).free hfln
 have npn:G1 p=none:=gH3.free hpn
 have nnd:G1 nd'=none:=gH3.free hndG
 generalize upd H6 m (.ins CM dx (mf2 pd fl))=H7 at hm7 g7 k7 p7 n7 q7 |-
 refine⟨_,rfl,hd,cvs,rfl,(g1.trans g7) _ _ hhd,fun cd hcdn=>?_⟩
 have s8:=ad hcdn (.dK cvs)
 have k8:(upd H7 cd (.dK cvs)) cd=some (.dK cvs):=aa
 generalize upd H7 cd (.dK cvs)=H8 at s8 k8 |-
 have hm8:=s8 _ _ hm7
 have ncm:cd≠m:=fun z=>by rw[z,hm8] at k8;cases k8
 have ncd:G1 cd=none:=g7.free hcdn
 have ncn:nd'≠cd:=ao n7 hcdn
 obtain⟨_,_,l3,l4,l5⟩:=jr pd fl cd 0
 refine⟨_,rfl,m,CM,dx,_,rfl,hm8,T.cl,T.nC,(by omega),?_⟩
 have hm9:(upd H8 m (.ins CM dx (mf3 pd fl cd))) m=some (.ins CM dx (mf3 pd fl cd)):=aa
 have g9:Same G1 (upd H8 m (.ins CM dx (mf3 pd fl cd))):=upG (g7.trans s8)
 have k9:(upd H8 m (.ins CM dx (mf3 pd fl cd))) fl=some (.lst [V.ref p]):=up nfm (s8 _ _ k7)
 have p9:(upd H8 m (.ins CM dx (mf3 pd fl cd))) p=some (.ins CF dxp fs):=up (AO hmp) (s8 _ _ p7)
 have n9:(upd H8 m (.ins CM dx (mf3 pd fl cd))) nd'=some (.dK ((gf kvs zs).map kk)):=up nnm (s8 _ _ n7)
 have c9:(upd H8 m (.ins CM dx (mf3 pd fl cd))) cd=some (.dK cvs):=up ncm k8
 have q9:SqT K (upd H8 m (.ins CM dx (mf3 pd fl cd))) q1 ((flat due.1++[(due.2:Int)]).map V.int):=upT hm8 (s8.seqT q7)
 change tSeq _ _ _ _ (upd H8 m (.ins CM dx (mf3 pd fl cd)))
 generalize upd H8 m (.ins CM dx (mf3 pd fl cd))=H9 at hm9 g9 k9 p9 n9 c9 q9 |-
 refine⟨_,rfl,hd,cvs,rfl,(g1.trans g9) _ _ hhd,fun ll hll=>?_⟩
 have eks:cvs.map (fun kv=>kV kv.1)=ns.map V.int:=by
   have:cvs.map (fun kv=>kV kv.1)=(cvs.map (·.1)).map kV:=by rw[Cv];rfl
   rw[this,hns,Cv];rfl
 rw[eks]
 have s10:=ad hll (.lst (ns.map V.int))
 have k10:(upd H9 ll (.lst (ns.map V.int))) ll=some (.lst (ns.map V.int)):=aa
 generalize upd H9 ll (.lst (ns.map V.int))=H10 at s10 k10 |-
 have hm10:=s10 _ _ hm9
 have fin:∀g:Int,(ns=[]->g=0)->(ns≠[]->g∈ns/\∀n∈ns,n<=g)->Q .non (upd (upd H10 m (.ins CM dx (mf4 pd fl cd g))) m (.ins CM dx (mf5 pd fl cd g))):=fun g h1 h2=>by
   refine q G1 pd fl p dxp q1 nd' cd pr bd us (mf5 pd fl cd g) fs zs g _ ?_
   obtain⟨_,_,_,_,l6⟩:=jr pd fl cd g
   exact⟨g1,upG (upG (g9.trans s10)),nm1,npn,nnd,ncd,nfl,ncn,hmp,hps1,hpr,hpd1,⟨_,_,_,_,_,px.tup⟩,px.body,aa,aa0 pd fl cd g,l6,up nfm (up nfm (s10 _ _ k9)),up (AO hmp) (up (AO hmp) (s10 _ _ p9)),hff,hfl,upT aa (upT hm10 (s10.seqT q9)),up nnm (up nnm (s10 _ _ n9)),hzn,hzm,up ncm (up ncm (s10 _ _ c9)),h1,h2⟩
 refine⟨ll,ns,0,rfl,rfl,SqL.of k10,fun h0=>?_,fun M hM hle=>?_⟩
 . obtain⟨_,_,_,l6,_⟩:=jr pd fl cd 0
   exact⟨_,rfl,m,CM,dx,_,rfl,hm10,T.cl,T.nG,(by omega),_,rfl,m,CM,dx,_,rfl,aa,T.cl,T.nL,Bs l6 (by decide),fin 0 (fun _=>rfl) (fun z=>absurd h0 z)⟩
 . obtain⟨_,_,_,l6,_⟩:=jr pd fl cd M
   exact⟨_,rfl,m,CM,dx,_,rfl,hm10,T.cl,T.nG,(by omega),_,rfl,m,CM,dx,_,rfl,aa,T.cl,T.nL,Bs l6 (by decide),fin M (fun z=>by rw[z] at hM;cases hM) (fun _=>⟨hM,hle⟩)⟩
noncomputable abbrev a0g:Stmt:=top 33
noncomputable abbrev sFed:Stmt:=top 34
noncomputable abbrev wg:Stmt:=top 35
noncomputable abbrev sj:Stmt:=top 36
noncomputable def ml (c:Int) (k:Nat):Int:=(c % 2147483629*48271+69621*(k:Int)+11) % 2147483587
noncomputable def mr (c:Int) (k:Nat):Int:=ml c k*(ml c k / 7+39373) % 2147483563
noncomputable def a6u (c:Int) (k:Nat):Int:=mr c k*(mr c k / 5+16807+(k:Int)) % 2147483399
noncomputable def a73 (c:Int) (k:Nat):Int:=(ml c k*2147483563+mr c k)*2147483399+a6u c k
noncomputable def a4p:Sp:=fun vs H Q _=>∃(c:Int) (k:Nat),vs=[.int c,.int (k:Int)]/\Q (.int (a73 c k)) H
noncomputable def fedF (c:Int) (k:Nat):Int:=if c % 2=1 then a73 (c / 2) k else c / 2
noncomputable def ux:Sp:=fun vs H Q _=>∃(c:Int) (k:Nat),vs=[.int c,.int (k:Int)]/\∀l,H l=none->Q (.ref l) (upd H l (.lst [.int (fedF c k)]))
noncomputable def og:Sp:=fun vs H Q _=>∃(l:Addr) (n:Int) (m:Int),vs=[.ref l,.int m]/\H l=some (.lst [.int n])/\0<m/\m<=10 ^ 60/\Q (.int (n % m)) (upd H l (.lst [.int (n / m)]))
theorem scRich:FnScope ["_law_cell","_law_k","_law_one","_law_two","_law_three"] ["_law_cell","_law_k"] (au a0g):=⟨rfl,rfl,rfl,by decide +kernel,rfl,by decide +kernel,by decide +kernel⟩
theorem a8l (F:Fun K "_law_rich" "_law_rich" a0g f fd):FnOk P w K mg base CX0 1 f fd ["_law_cell","_law_k"] a4p:=by
 refine F.okQ scRich (fun vs H Q E h=>?_) (fun cdv A outer s0 H vs Q E hr h=>?_)
 . obtain⟨c,k,rfl,_⟩:=h;rfl
 obtain⟨c,k,rfl,q⟩:=h
 have nd:=scRich.nd
 refine⟨_,ae (ar (i:=2) nd rfl (Or.inl rfl) (ax cn (ax cg (ax cg (ax io (ax cn (qv 0) ab) ab) (ax io ab (qv 1))) ab) ab))
   (ae (ar (i:=3) nd rfl (Or.inl rfl) (ax cn (ax io (qv 2) (ax cg (ax et (qv 2) ab) ab)) ab))
   (ae (ar (i:=4) nd rfl (Or.inl rfl) (ax cn (ax io (qv 3) (ax cg (ax cg (ax et (qv 3) ab) ab) (qv 1))) ab))
   (ai (b5 (ax cg (ax io (ax cg (ax io (qv 2) ab) (qv 3)) ab) (qv 4)))))),?_⟩
 have m1:0<=ml c k:=Ca _ (show (2147483587:Int)≠0 by decide)
 have m2:ml c k<2147483587:=BQ _ (show (0:Int)<2147483587 by decide)
 have m3:0<=mr c k:=Ca _ (show (2147483563:Int)≠0 by decide)
 have m4:mr c k<2147483563:=BQ _ (show (0:Int)<2147483563 by decide)
 refine⟨_,rfl,_,_,rfl,rfl,(show (0:Int)<2147483629 by decide),_,_,rfl,rfl,.inr ⟨by decide,by decide⟩,_,rfl,_,_,rfl,rfl,.inl ⟨by decide,by decide⟩,_,_,rfl,rfl,_,_,rfl,rfl,_,_,rfl,rfl,(show (0:Int)<2147483587 by decide),?_⟩
 change ba 2 (.int (ml c k)) _ _ _
 refine⟨_,rfl,_,rfl,_,_,rfl,rfl,(show CDiv _ 7 from⟨by decide,by decide⟩),_,_,rfl,rfl,_,_,rfl,rfl,.inl ⟨by omega,by omega⟩,_,_,rfl,rfl,(show (0:Int)<2147483563 by decide),?_⟩
 change ba 3 (.int (mr c k)) _ _ _
 refine⟨_,rfl,_,rfl,_,_,rfl,rfl,(show CDiv _ 5 from⟨by decide,by decide⟩),_,_,rfl,rfl,_,rfl,_,_,rfl,rfl,_,_,rfl,rfl,.inl ⟨by omega,by omega⟩,_,_,rfl,rfl,(show (0:Int)<2147483399 by decide),?_⟩
 change ba 4 (.int (a6u c k)) _ _ _
 exact⟨_,rfl,_,_,rfl,rfl,.inr ⟨by decide,by decide⟩,_,rfl,_,_,rfl,rfl,_,_,rfl,rfl,.inr ⟨by decide,by decide⟩,_,rfl,_,_,rfl,rfl,q⟩
theorem scFed:FnScope ["_law_cell","_law_k"] ["_law_cell","_law_k"] (au sFed):=⟨rfl,rfl,rfl,by decide +kernel,rfl,by decide +kernel,by decide +kernel⟩
theorem a96 (F:Fun K "_law_fed" "_law_fed" sFed f fd) (GR:FnOk P w K mg base CX0 1 gR dR ["_law_cell","_law_k"] a4p) (cR:Cal K mg "_law_rich" gR dR ["_law_cell","_law_k"]):FnOk P w K mg base CX0 2 f fd ["_law_cell","_law_k"] ux:=by
 refine F.okQ scFed (fun vs H Q E h=>?_) (fun cdv A outer s0 H vs Q E hr h=>?_)
 . obtain⟨c,k,rfl,_⟩:=h;rfl
 obtain⟨c,k,rfl,q⟩:=h
 have nd:=scFed.nd
 refine⟨_,ae (bg (aw bb (ax cn (qv 0) ab) ab (av _)) (ai (b5 (bw (bi (aq GR hr rfl cR.name cR.keep cR.bind .nil ap (dq (ax et (qv 0) ab) (aj (qv 1) a0))) a0)))) bq)
   (ai (b5 (bw (dq (ax et (qv 0) ab) a0)))),?_⟩
 refine⟨_,rfl,_,_,rfl,rfl,(show (0:Int)<2 by decide),rfl,_,rfl,iteB (fun hc=>?_) (fun hc=>?_)⟩
 . have hc1:c % 2=1:=V.int.inj (of_decide_eq_true hc)
   unfold fedF at q
   rw[if_pos hc1] at q
   exact⟨_,rfl,_,_,rfl,rfl,(show CDiv _ 2 from⟨by decide,by decide⟩),_,rfl,c / 2,k,rfl,(show 1<=sizeLine by decide),q⟩
 . have hc1:¬ c % 2=1:=fun z=>by rw[decide_eq_true (congrArg V.int z)] at hc;cases hc
   unfold fedF at q
   rw[if_neg hc1] at q
   exact⟨_,rfl,_,_,rfl,rfl,(show CDiv _ 2 from⟨by decide,by decide⟩),(show 1<=sizeLine by decide),q⟩
theorem scDigit:FnScope ["_law_digits","_law_many","_law_found"] ["_law_digits","_law_many"] (au wg):=⟨rfl,rfl,rfl,by decide +kernel,rfl,by decide +kernel,by decide +kernel⟩
theorem a62 (F:Fun K "_law_digit" "_law_digit" wg f fd):FnOk P w K mg base CX0 1 f fd ["_law_digits","_law_many"] og:=by
 refine F.okQ scDigit (fun vs H Q E h=>?_) (fun cdv A outer s0 H vs Q E hr h=>?_)
 . obtain⟨g,n,m,rfl,_⟩:=h;rfl
 obtain⟨g,n,m,rfl,hG,hm,hm2,q⟩:=h
 have nd:=scDigit.nd
 refine⟨_,ae (ar (i:=2) nd rfl (Or.inl rfl) (ax cn (af ef (qv 0) ab (fun _ _=>rfl)) (qv 1)))
   (ae (jt (ax a5x (af ef (qv 0) ab (fun _ _=>rfl)) (qv 1)) (wn (qv 0) ab i5))
   (ai (b5 (qv 2)))),?_⟩
 refine⟨_,rfl,g,_,0,.int n,rfl,rfl,SqL.of hG,rfl,_,rfl,_,_,rfl,rfl,hm,?_⟩
 refine⟨_,rfl,g,_,0,.int n,rfl,rfl,SqL.of hG,rfl,_,rfl,_,_,rfl,rfl,⟨hm,hm2⟩,?_⟩
 exact⟨_,rfl,g,[.int n],0,0,rfl,rfl,hG,rfl,_,rfl,q⟩
noncomputable def signsT:Str := "abcdefghijklmnopqrstuvwxyz0123456789"
noncomputable def sgs:List Nat:=signsT.cps.toList
noncomputable def lts:List Nat:=sgs.take 26
theorem gp:signsT.length<=sizeLine:=by decide +kernel
theorem ni:sgs.length=36:=by decide +kernel
structure PreOk (pre:List Nat):Prop where
 len:pre.length<=7
 sg:∀c∈pre,c∈sgs
 hd:∀c r,pre=c::r->c∈lts
theorem a2m:∀c∈sgs,dk c=true:=by decide +kernel
theorem a2s:∀c∈lts,iu [c]=true:=by decide +kernel
theorem yi (c:Nat) (r:List Nat):iu (c::r)=iu [c]:=rfl
noncomputable def sg (t:Nat):Nat:=sgs.getD t 0
noncomputable def c4 (pre:List Nat):Nat:=if pre=[] then 26 else 36
noncomputable def wd (pre:List Nat) (t:Nat):Str:=⟨(pre++[sg t]).toArray⟩
theorem wx {t:Nat}(h:t<36):sg t∈sgs:=by
 unfold sg
 rw[Cn,Ai (by rw[ni];exact h)]
 exact De _
theorem kq {t:Nat}(h:t<36):sgs[t]? = some (sg t):=by
 unfold sg
 rw[Cn,Ai (by rw[ni];exact h)];rfl
theorem v9 {t:Nat}(h:t<26):sg t∈lts:=by
 have h1:lts[t]? = some (sg t):=by show (sgs.take 26)[t]? = _;rw[CZ h];exact kq (by omega)
 exact AQ h1
theorem mz:∀t,t<36->IS signsT ⟨#[sg t]⟩=(t:Int):=by decide +kernel
theorem a9r:sgs.Nodup:=by decide +kernel
theorem aad {a b:Nat}(ha:a<36) (hb:b<36) (h:sg a=sg b):a=b:=by
 have h1:=kq ha
 have h2:=kq hb
 rw[h] at h1
 exact (HW (by rw[ni];exact ha) a9r).mp (h1.trans h2.symm)
theorem a3h {c:Nat}(h:c∈sgs):∃t,t<36/\c=sg t:=by
 obtain⟨t,ht,rfl⟩:=EE h
 have ht':t<36:=by rw[<- ni];exact ht
 refine⟨t,ht',?_⟩
 have:=kq ht'
 rw[Ai ht] at this
 exact Av this
theorem aa4 {c:Nat}(h:c∈lts):∃t,t<26/\c=sg t:=by
 obtain⟨t,ht,rfl⟩:=EE h
 have hl:lts.length=26:=by decide +kernel
 have ht':t<26:=by rw[<- hl];exact ht
 refine⟨t,ht',?_⟩
 have h1:lts[t]? = some (sg t):=by show (sgs.take 26)[t]? = _;rw[CZ ht'];exact kq (by omega)
 rw[Ai ht] at h1
 exact Av h1
theorem a8e {pre:List Nat}{t:Nat}(hp:PreOk pre) (ht:t<c4 pre) (hn:¬ wd pre t∈Mir.noNames):bx (wd pre t)=true:=by
 have ht36:t<36:=by unfold c4 at ht;split at ht<;>omega
 unfold bx
 have hl:(wd pre t).length=pre.length+1:=by show (pre++[sg t]).toArray.size=_;simp
 have h1:=hp.len
 rw[if_neg ?_]
 . rw[Cc]
   constructor
   . show iu (pre++[sg t])=true
     cases hpre:pre with
     | nil=>exact a2s _ (v9 (by unfold c4 at ht;rw[if_pos hpre] at ht;exact ht))
     | cons d r=>rw[List.cons_append,yi];exact a2s d (hp.hd d r hpre)
   . show (pre++[sg t]).all dk=true
     refine List.all_eq_true.mpr fun d hd=>?_
     rcases As.mp hd with z|z
     . exact a2m d (hp.sg d z)
     . rw[Au.mp z];exact a2m _ (wx ht36)
 . rintro (z|z|z)
   . have:=congrArg Fp z
     rw[hl] at this
     have h0:("" : Str).length=0:=by decide +kernel
     omega
   . omega
   . exact hn z
theorem a9q {pre:List Nat}{a b:Nat}(ha:a<36) (hb:b<36) (h:wd pre a=wd pre b):a=b:=by
 have e2:=congrArg (fun s:Str=>s.cps.toList) h
 have e3:pre++[sg a]=pre++[sg b]:=e2
 exact aad ha hb (by simpa using e3)
theorem a0w {pre:List Nat}{bad:List Str}{i0 many:Nat}(hm:many<=36) (h0:0<many) (hb:bad.length<many):¬ ∀j,j<many->wd pre ((i0+j) % many)∈bad:=by
 intro h
 have h1:((Du many).map fun j=>wd pre j).Nodup:=by
   refine List.pairwise_map.mpr ((List.nodup_range (n:=many)).imp_of_mem fun {a b} ha hb' hab e=>hab (a9q ?_ ?_ e))
   . have:=EK.mp ha;omega
   . have:=EK.mp hb';omega
 have h2:=Bf h1 (l₂:=bad) fun x hx=>by
   obtain⟨t,ht,rfl⟩:=AF.mp hx
   have ht':=EK.mp ht
   have hi:=Ey i0 h0
   have:=h ((t+(many - i0 % many)) % many) (Ey _ h0)
   have e:(i0+(t+(many - i0 % many)) % many) % many=t:=by
     rw[Nat.add_mod,Nat.mod_mod,<- Nat.add_mod]
     have e1:i0=many*(i0 / many)+i0 % many:=(Nat.div_add_mod i0 many).symm
     have e2:i0+(t+(many - i0 % many))=t+many*(i0 / many+1):=by rw[Nat.mul_add,Nat.mul_one];omega
     rw[e2,Nat.add_mul_mod_self_left,Im ht']
   rw[e] at this
   exact this
 rw[Ac,Fm] at h2
 omega
theorem a9x (pre:List Nat) (t u:Nat):cutS (wd pre t) none (some (-1))++(⟨#[sg u]⟩:Str)=wd pre u:=by
 have hl:(wd pre t).length=pre.length+1:=by show (pre++[sg t]).toArray.size=_;simp
 have h1:(cutS (wd pre t) none (some (-1))).cps=pre.toArray:=by
   show (List.take (HT.sIx (wd pre t).length (wd pre t).length (some (-1)) - HT.sIx (wd pre t).length 0 none) (List.drop (HT.sIx (wd pre t).length 0 none) (pre++[sg t]))).toArray=_
   have e1:HT.sIx (wd pre t).length (wd pre t).length (some (-1))=pre.length:=by
     unfold HT.sIx
     simp only[hl]
     rw[if_pos (by decide)]
     omega
   have e2:HT.sIx (wd pre t).length 0 none=0:=rfl
   rw[e1,e2,CW,DM,List.take_left']
   rfl
 have h2:(cutS (wd pre t) none (some (-1))++(⟨#[sg u]⟩:Str)).cps=(cutS (wd pre t) none (some (-1))).cps ++ #[sg u]:=GQ _ _
 have h3:∀a b:Str,a.cps=b.cps->a=b:=fun a b e=>by cases a;cases b;cases e;rfl
 refine h3 _ _ ?_
 rw[h2,h1]
 show pre.toArray ++ #[sg u]=(pre++[sg u]).toArray
 simp
theorem aao {K:Ab}{σ:St}{H:Hp}{Q:Bool->Hp->Prop}{i j k:Nat}{x:Str}{l m:Addr}{ns ms:List Str}(hi:σ[i]? = some (some (.str x))) (hj:σ[j]? = some (some (.ref l))) (hk:σ[k]? = some (some (.ref m))) (h1:H l=some (.lst (ns.map V.str))) (h2:H m=some (.lst (ms.map V.str))) (q:Q (decide (x∈ns++ms)) H) :
   tOr (nq (tOp (rIn K false) (tVar i) (tVar j))) (nq (tOp (rIn K false) (tVar i) (tVar k))) σ H Q:=by
 refine⟨_,hi,_,hj,l,_,rfl,.inl (SqL.of h1),rfl,gn _,_,rfl,?_⟩
 rw[if_neg Af,gl]
 refine iteB (fun c=>?_) (fun c=>⟨_,hi,_,hk,m,_,rfl,.inl (SqL.of h2),rfl,gn _,_,rfl,?_⟩)
 . rw[decide_eq_true (AW _ (of_decide_eq_true c))] at q;exact q
 . rw[if_neg Af,gl]
   have e:decide (x∈ns++ms)=decide (x∈ms):=by
     rw[BY,decide_eq_true_eq,decide_eq_true_eq,As]
     exact⟨fun z=>z.elim (fun y=>absurd y (of_decide_eq_false c)) id,.inr⟩
   rw[e] at q;exact q
inductive spUnlike (K:Ab) (vs:List V) (H:Hp) (Q:VK) (E:XK):Prop
 | mk (pre:List Nat) (t:Nat) (l:Addr) (ns:List Str) (h0:vs=[.str (wd pre t),.ref l]) (hp:PreOk pre) (ht:t<c4 pre) (hl:H l=some (.lst (ns.map V.str))) (hn:ns.length<=12)
     (q:∀x H',Same H H'->¬ x∈ns->bx x=true->Q (.str x) H'):spUnlike K vs H Q E
theorem scUnlike:FnScope ["_law_name","_law_names_here","_law_signs","_law_odd","_law_many"] ["_law_name","_law_names_here"] (au sj):=⟨rfl,rfl,rfl,by decide +kernel,rfl,by decide +kernel,by decide +kernel⟩
theorem a49 (C:Con K mg w) (F:Fun K "_law_unlike" "_law_unlike" sj f fd):FnOk P w K mg base CX0 1 f fd ["_law_name","_law_names_here"] (spUnlike K):=by
 refine F.okQ scUnlike (fun vs H Q E h=>?_) (fun cdv A outer s0 H vs Q E hr h=>?_)
 . obtain⟨pre,t,l,ns,rfl,_⟩:=h;rfl
 obtain⟨pre,t,l,ns,rfl,hp,ht,hl,hn,q⟩:=h
 have nd:=scUnlike.nd
 refine⟨_,ae (ar (i:=2) nd rfl (Or.inl rfl) b6)
   (ae (ar (i:=3) nd rfl (Or.inl rfl) (bw (c6 (c6 (c6 (c6 (c6 (c6 (c6 (c6 (c6 (c6 a0))))))))))))
   (ae (ar (i:=4) nd rfl (Or.inl rfl) (af ef (bw (b9 (b9 a0))) (be en rfl C.int BN (bv (cz bb (bf m9 rfl C.len AM (aj (qv 0) a0)) ab (av _)) a0)) (fun _ _=>rfl)))
   (ae (i3 AH (QW.qt (kg (aw jb (qv 0) (qv 1) (by with_unfolding_all rfl)) (lj (aw jb (qv 0) (qv 3) (by with_unfolding_all rfl))))) (ai (ar (i:=0) nd rfl (Or.inl rfl) (ax gx (cj wm (qv 0) dj (cr (c7 bu ab))) (af gr (qv 2) (ax cn (ax cg (fq (K:=K) rfl Gk Gm Gn (oy rfl) (qv 2) (az (af gr (qv 0) (c7 bu ab) (fun _ _=>rfl)) a0)) ab) (qv 4)) (fun _ _=>rfl))))))
   (ai (b5 (qv 0)))))),?_⟩
 refine⟨(by decide),fun l0 hl0=>?_⟩
 have s1:=ad hl0 (.lst (Mir.noNames.map V.str))
 have k1:(upd H l0 (.lst (Mir.noNames.map V.str))) l0=some (.lst (Mir.noNames.map V.str)):=aa
 change tSeq _ _ _ _ (upd H l0 (.lst (Mir.noNames.map V.str)))
 generalize upd H l0 (.lst (Mir.noNames.map V.str))=H1 at s1 k1 |-
 have hwl:(wd pre t).length=pre.length+1:=by show (pre++[sg t]).toArray.size=_;simp
 have hpl:=hp.len
 have hm36:c4 pre<=36/\26<=c4 pre:=by unfold c4;split<;>omega
 refine⟨(by decide),fun l1 hl1=>?_⟩
 have s2:=ad hl1 (.lst [V.int 36,V.int 26])
 have k2:(upd H1 l1 (.lst [V.int 36,V.int 26])) l1=some (.lst [V.int 36,V.int 26]):=aa
 generalize upd H1 l1 (.lst [V.int 36,V.int 26])=H2 at s2 k2 |-
 refine⟨_,rfl,wd pre t,rfl,bn (by omega),rfl,_,rfl,l1,_,_,.int (c4 pre),rfl,rfl,SqL.of k2,?_,?_⟩
 . rw[hwl]
   unfold c4
   by_cases hpr:pre=[]
   . rw[if_pos hpr,hpr];rfl
   . have:pre.length≠0:=fun z=>hpr (AY z)
     rw[if_neg hpr,if_neg (by intro z;have:=V.int.inj (of_decide_eq_true z);omega)];rfl
 dsimp only[ba]
 have hl2:=(s1.trans s2) _ _ hl
 have hbl:(ns++Mir.noNames).length<c4 pre:=by rw[Ag,show Mir.noNames.length=10 by decide];omega
 refine⟨fun m σ H'=>H'=H2/\∃j,m=c4 pre - j/\(∀i,i<j->wd pre ((t+i) % c4 pre)∈ns++Mir.noNames)/\σ=[some (.str (wd pre ((t+j) % c4 pre))),some (.ref l),some (.str signsT),some (.ref l0),some (.int (c4 pre))],⟨_,rfl,0,rfl,fun i hi=>absurd hi (Nat.not_lt_zero _),?_⟩,?_⟩
 . rw[Nat.add_zero,Im ht];rfl
 rintro m σ H' ⟨rfl,j,rfl,hall,rfl⟩
 have hj:j<c4 pre:=Nat.lt_of_not_le fun z=>a0w hm36.1 (by omega) hbl fun i hi=>hall i (by omega)
 have hmod:=Ey (t+j) (show 0<c4 pre by omega)
 generalize hu:(t+j) % c4 pre=u at hmod
 have hul:(wd pre u).length=pre.length+1:=by show (pre++[sg u]).toArray.size=_;simp
 have k1':=s2 _ _ k1
 have hlast:atI (wd pre u).cps.toList (-1)=some (sg u):=by show atI (pre++[sg u]) (-1)=_;exact bh
 have hu36:u<36:=by omega
 refine aao rfl rfl rfl hl2 k1' ?_
 refine iteB (fun hc=>?_) (fun hc=>?_)
 . have hin:=of_decide_eq_true hc
   refine⟨fun σ' H9=>H9=H'/\σ'=[some (.str (wd pre ((t+(j+1)) % c4 pre))),some (.ref l),some (.str signsT),some (.ref l0),some (.int (c4 pre))],?_,?_⟩
   . rintro σ' H9 ⟨rfl,rfl⟩
     refine⟨c4 pre - (j+1),by omega,rfl,j+1,rfl,fun i hi=>?_,rfl⟩
     by_cases e:i=j
     . rw[e,hu];exact hin
     . exact hall i (by omega)
   . have hmu:=Ey (u+1) (show 0<c4 pre by omega)
     have e1:(t+(j+1)) % c4 pre=(u+1) % c4 pre:=by rw[<- hu,Nat.mod_add_mod,Nat.add_assoc]
     have e2:((u:Int)+1) % (c4 pre:Int)=(((u+1) % c4 pre:Nat):Int):=(Int.natCast_emod (u+1) (c4 pre)).symm
     have hcutl:(cutS (wd pre u) none (some (-1))).length<=8:=by
       have e:(cutS (wd pre u) none (some (-1))).length<=(wd pre u).length:=by
         show (((wd pre u).cps.toList.drop (HT.sIx (wd pre u).length 0 none)).take _).toArray.size<=(wd pre u).cps.size
         rw[Ar,AS,Ba,AU]
         omega
       omega
     refine⟨_,rfl,_,rfl,_,rfl,wd pre u,rfl,bn (by omega),_,rfl,_,rfl,rfl,_,rfl,_,rfl,wd pre u,_,sg u,rfl,rfl,bn (by omega),hlast,signsT,⟨#[sg u]⟩,rfl,rfl,by rw[mz u hu36];omega,?_⟩
     rw[mz u hu36]
     refine⟨_,_,rfl,rfl,_,rfl,_,_,rfl,rfl,(show (0:Int)<(c4 pre:Int) by omega),signsT,_,sg ((u+1) % c4 pre),rfl,rfl,gp,?_,_,_,rfl,rfl,bn (by show _+1<=1000;omega),rfl,?_⟩
     . rw[e2];exact c8 (kq (by omega))
     . rw[a9x,e1]
       rfl
 . have hout:=of_decide_eq_false hc
   exact⟨_,rfl,q _ _ (s1.trans s2) (fun z=>hout (AW _ z)) (a8e hp hmod fun z=>hout (AE _ z))⟩
noncomputable abbrev vw:Stmt:=top 37
structure WOk (w:List Nat):Prop where
 len:w.length<=8
 ne:w≠[]
 sg:∀c∈w,c∈sgs
 hd:∀c r,w=c::r->c∈lts
noncomputable def toS (w:List Nat):Str:=⟨w.toArray⟩
theorem fi (w:List Nat):(toS w).length=w.length:=by show w.toArray.size=_;simp
theorem WOk.wd {w:List Nat}(h:WOk w):∃pre t,toS w=wd pre t/\PreOk pre/\t<c4 pre:=by
 obtain⟨pre,c,rfl⟩:∃pre c,w=pre++[c]:=⟨w.dropLast,w.getLast h.ne,(ER h.ne).symm⟩
 have hc:=h.sg c (AE _ (Au.mpr rfl))
 have hl:=h.len
 rw[Ag,AX] at hl
 have hp:PreOk pre:=⟨by omega,fun d hd=>h.sg d (AW _ hd),fun d r e=>h.hd d (r++[c]) (by rw[e];rfl)⟩
 by_cases e:pre=[]
 . subst e
   obtain⟨t,ht,rfl⟩:=aa4 (h.hd c [] rfl)
   exact⟨[],t,rfl,hp,by unfold c4;rw[if_pos rfl];exact ht⟩
 . obtain⟨t,ht,rfl⟩:=a3h hc
   exact⟨pre,t,rfl,hp,by unfold c4;rw[if_neg e];exact ht⟩
theorem WOk.one {c:Nat}(h:c∈lts):WOk [c]:=⟨by simp,by simp,fun d hd=>by rw[Au.mp hd];exact BS h,fun d r e=>by rw[<- (Hm e).1];exact h⟩
theorem WOk.snoc {w:List Nat}{c:Nat}(h:WOk w) (hc:c∈sgs) (hl:w.length<=7):WOk (w++[c]):=by
 refine⟨by rw[Ag,AX];omega,by simp,fun d hd=>?_,fun d r e=>?_⟩
 . rcases As.mp hd with z|z
   . exact h.sg d z
   . rw[Au.mp z];exact hc
 . cases hw:w with
   | nil=>exact absurd hw h.ne
   | cons d' r'=>rw[hw] at e;rw[<- (Hm e).1];exact h.hd d' r' hw
theorem WOk.at {w:List Nat}{c i:Nat}(h:WOk w) (hc:c∈lts) (hi:i<w.length):WOk (w.take i++[c]++w.drop (i+1)):=by
 have hcs:c∈sgs:=BS hc
 refine⟨?_,by simp,fun d hd=>?_,fun d r e=>?_⟩
 . have:=h.len
   simp only[Ag,AS,Ba,AX];omega
 . rcases As.mp hd with z|z
   . rcases As.mp z with z|z
     . exact h.sg d (BS z)
     . rw[Au.mp z];exact hcs
   . exact h.sg d (CU z)
 . cases i with
   | zero=>simp at e;rw[<- e.1];exact hc
   | succ i =>
     cases hw:w with
     | nil=>exact absurd hw h.ne
     | cons d' r'=>rw[hw] at e;simp at e;rw[<- e.1];exact h.hd d' r' hw
theorem qe (w:List Nat) (c:Nat):toS w++(⟨#[c]⟩:Str)=toS (w++[c]):=by
 have h3:∀a b:Str,a.cps=b.cps->a=b:=fun a b e=>by cases a;cases b;cases e;rfl
 refine h3 _ _ ?_
 rw[GQ]
 show w.toArray ++ #[c]=(w++[c]).toArray
 simp
theorem a7t (a b:List Nat):toS a++toS b=toS (a++b):=by
 have h3:∀a b:Str,a.cps=b.cps->a=b:=fun a b e=>by cases a;cases b;cases e;rfl
 refine h3 _ _ ?_
 rw[GQ]
 show a.toArray++b.toArray=(a++b).toArray
 simp
theorem a98 (w:List Nat) (i:Nat):cutS (toS w) none (some (i:Int))=toS (w.take i):=by
 unfold cutS
 rw[HT.sIx_nat,show HT.sIx (toS w).length 0 none=0 from rfl,fi]
 show toS ((w.drop 0).take _)=_
 rw[CW,DM]
 by_cases h:i<=w.length
 . rw[DE h]
 . rw[FG (by omega),BD,Bj (by omega)]
theorem a5d (w:List Nat) (i:Nat) (h:i<=w.length):cutS (toS w) (some (i:Int)) none=toS (w.drop i):=by
 unfold cutS
 rw[HT.sIx_nat,show HT.sIx (toS w).length (toS w).length none=(toS w).length from rfl,fi,DE h]
 show toS ((w.drop i).take _)=_
 rw[Bj (by rw[Ba];omega)]
noncomputable def DI (H:Hp) (dl:Addr) (H':Hp):Prop:=Same H H'/\∃n:Int,H' dl=some (.lst [.int n])
theorem DI.put {H H':Hp}{dl:Addr}(h:DI H dl H') (hd:H dl=none) (n:Int):DI H dl (upd H' dl (.lst [.int n])):=⟨fun b o z=>by rw[ah (ao z hd)];exact h.1 _ _ z,n,aa⟩
theorem DI.same {H H' H'':Hp}{dl:Addr}(h:DI H dl H') (e:Same H' H''):DI H dl H'':=⟨h.1.trans e,by obtain⟨n,hn⟩:=h.2;exact⟨n,e _ _ hn⟩⟩
theorem qr (n:Int) {m:Int}(h0:0<m) (hm:m<=36):∃t:Nat,(t:Int)<m/\atI signsT.cps.toList (n % m)=some (sg t):=by
 have h1:=Ca n (show m≠0 by omega)
 have h2:=BQ n h0
 obtain⟨t,ht⟩:∃t:Nat,n % m=(t:Int):=⟨(n % m).toNat,by omega⟩
 rw[ht] at h2 |-
 exact⟨t,h2,c8 (kq (by omega))⟩
inductive spNm (vs:List V) (H:Hp) (Q:VK) (E:XK):Prop
 | mk (b p:Int) (n:Nat) (h0:vs=[.int b,.int p,.int (n:Int)]) (hn:n<=8) (q:∀l xs H',Same H H'->H' l=some (.lst ((xs:List Str).map V.str))->xs.length=n->xs.Nodup->(∀x∈xs,bx x=true)->Q (.ref l) H'):spNm vs H Q E
inductive NW (H:Hp) (dl:Addr) (b p:Int) (n sz:Nat) (i:Nat) (σ:St) (H':Hp):Prop
 | mk (w:List Nat) (z7:Option V) (D:DI H dl H') (hw:WOk w) (hl:w.length=i+1) (hσ:σ=[some (.int b),some (.int p),some (.int (n:Int)),some (.str signsT),some (.ref dl),some (.int (1+(sz:Int))),some (.str (toS w)),z7,none,none,none,none,none])
inductive NL (H:Hp) (dl nl:Addr) (b p:Int) (n sz:Nat) (w:List Nat) (i:Nat) (σ:St) (H':Hp):Prop
 | mk (xs:List Str) (z7 z9 z10 z11 z12:Option V) (D:DI H dl H') (k:H' nl=some (.lst (xs.map V.str))) (hl:xs.length=i) (hn:xs.Nodup) (hx:∀x∈xs,bx x=true) (hσ:σ=[some (.int b),some (.int p),some (.int (n:Int)),some (.str signsT),some (.ref dl),some (.int (1+(sz:Int))),some (.str (toS w)),z7,some (.ref nl),z9,z10,z11,z12])
inductive NJ (H:Hp) (dl nl:Addr) (b p:Int) (n sz:Nat) (w:List Nat) (xs:List Str) (z9 z10 z11:Option V) (i:Nat) (σ:St) (H':Hp):Prop
 | mk (v:List Nat) (z7:Option V) (D:DI H dl H') (k:H' nl=some (.lst (xs.map V.str))) (hv:WOk v) (hl:v.length=i+1) (hσ:σ=[some (.int b),some (.int p),some (.int (n:Int)),some (.str signsT),some (.ref dl),some (.int (1+(sz:Int))),some (.str (toS w)),z7,some (.ref nl),z9,z10,z11,some (.str (toS v))])
theorem scNames:FnScope ["_law_base","_law_place_here","_law_many","_law_signs","_law_digits","_law_size","_law_word","_law_j","_law_names_here","_law_k","_law_at","_law_letter","_law_name"] ["_law_base","_law_place_here","_law_many"] (au vw):=⟨rfl,rfl,rfl,by decide +kernel,rfl,by decide +kernel,by decide +kernel⟩
theorem a5w (C:Con K mg w) (F:Fun K "_law_names" "_law_names" vw f fd) (GF:FnOk P w K mg base CX0 2 gF dF ["_law_cell","_law_k"] ux) (cF:Cal K mg "_law_fed" gF dF ["_law_cell","_law_k"]) (GD:FnOk P w K mg base CX0 1 gD dD ["_law_digits","_law_many"] og) (cD:Cal K mg "_law_digit" gD dD ["_law_digits","_law_many"]) (GU:FnOk P w K mg base CX0 1 gU dU ["_law_name","_law_names_here"] (spUnlike K)) (cU:Cal K mg "_law_unlike" gU dU ["_law_name","_law_names_here"]):FnOk P w K mg base CX0 3 f fd ["_law_base","_law_place_here","_law_many"] spNm:=by
 refine F.okQ scNames (fun vs H Q E h=>?_) (fun cdv A outer s0 H vs Q E hr h=>?_)
 . obtain⟨b,p,n,rfl,_⟩:=h;rfl
 obtain⟨b,p,n,rfl,hn,q⟩:=h
 have nd:=scNames.nd
 have hr1:=hr.mono (j:=1) (by omega)
 refine⟨_,ae (ar (i:=3) nd rfl (Or.inl rfl) b6)
   (ae (ar (i:=4) nd rfl (Or.inl rfl) (aq GF hr rfl cF.name cF.keep cF.bind .nil ap (aj (qv 0) (b9 a0))))
   (ae (ar (i:=5) nd rfl (Or.inl rfl) (ax cg ab (aq GD hr1 rfl cD.name cD.keep cD.bind .nil ap (aj (qv 4) (b9 a0)))))
   (ae (ar (i:=6) nd rfl (Or.inl rfl) (af gr (qv 3) (aq GD hr1 rfl cD.name cD.keep cD.bind .nil ap (aj (qv 4) (b9 a0))) (fun _ _=>rfl)))
   (ae (dv AH rfl (a2e rfl C.range (b9 (aj (qv 5) a0))) (bo (i:=7) nd rfl (Or.inl rfl)) (ai (ar (i:=6) nd rfl (Or.inl rfl) (ax gx (qv 6) (af gr (qv 3) (aq GD hr1 rfl cD.name cD.keep cD.bind .nil ap (aj (qv 4) (b9 a0))) (fun _ _=>rfl))))))
   (ae (ar (i:=8) nd rfl (Or.inl rfl) (bw a0))
   (ae (dv AH rfl (jd rfl C.range (aj (qv 2) a0)) (bo (i:=9) nd rfl (Or.inl rfl)) (ae (ar (i:=10) nd rfl (Or.inl rfl) (ax cn (qv 1) (qv 5)))
   (ae (ar (i:=11) nd rfl (Or.inl rfl) (af gr (qv 3) (ax cn (ax cg (fq (K:=K) rfl Gk Gm Gn (oy rfl) (qv 3) (az (af gr (qv 6) (qv 10) (fun _ _=>rfl)) a0)) (qv 9)) ab) (fun _ _=>rfl)))
   (ae (ar (i:=12) nd rfl (Or.inl rfl) (ax gx (ax gx (cj wm (qv 6) dj (cr (qv 10))) (qv 11)) (cj wm (qv 6) (cr (ax cg (qv 10) ab)) dj)))
   (ae (bg (aw bb (ax cn (qv 0) ab) ab (av _)) (ae (ar (i:=12) nd rfl (Or.inl rfl) (af gr (qv 3) (aq GD hr1 rfl cD.name cD.keep cD.bind .nil ap (aj (qv 4) (b9 a0))) (fun _ _=>rfl)))
   (ai (dv AH rfl (jd rfl C.range (bi (aq GD hr1 rfl cD.name cD.keep cD.bind .nil ap (aj (qv 4) (b9 a0))) a0)) (bo (i:=7) nd rfl (Or.inl rfl)) (ai (ar (i:=12) nd rfl (Or.inl rfl) (ax gx (qv 12) (af gr (qv 3) (aq GD hr1 rfl cD.name cD.keep cD.bind .nil ap (aj (qv 4) (b9 a0))) (fun _ _=>rfl)))))))) bq)
   (ai (bp (fq (K:=K) rfl AR BL BM em (qv 8) (bi (aq GU hr1 rfl cU.name cU.keep cU.bind .nil ap (aj (qv 12) (aj (qv 8) a0))) a0)))))))))
   (ai (b5 (qv 8))))))))),?_⟩
 refine⟨_,rfl,b,3,rfl,fun dl hdl=>?_⟩
 have D0:DI H dl (upd H dl (.lst [.int (fedF b 3)])):=⟨ad hdl _,_,aa⟩
 generalize upd H dl (.lst [.int (fedF b 3)])=H1 at D0 |-
 obtain⟨e1,n1,k1⟩:=id D0
 refine⟨_,rfl,dl,n1,8,rfl,k1,(by decide),(by decide),_,_,rfl,rfl,?_⟩
 have hs0:=Ca n1 (show (8:Int)≠0 by decide)
 have hs1:=BQ n1 (show (0:Int)<8 by decide)
 obtain⟨sz,hsz⟩:∃sz:Nat,n1 % 8=(sz:Int):=⟨(n1 % 8).toNat,by omega⟩
 rw[hsz] at hs1 |-
 have D2:=D0.put hdl (n1 / 8)
 generalize upd H1 dl (.lst [.int (n1 / 8)])=H2 at D2 |-
 obtain⟨e2,n2,k2⟩:=id D2
 obtain⟨t2,ht2,hat2⟩:=qr n2 (m:=26) (by decide) (by decide)
 refine⟨_,rfl,_,rfl,dl,n2,26,rfl,k2,(by decide),(by decide),signsT,_,sg t2,rfl,rfl,gp,hat2,?_⟩
 have D3:=D2.put hdl (n2 / 26)
 generalize upd H2 dl (.lst [.int (n2 / 26)])=H3 at D3 |-
 dsimp only[ba]
 refine ak (a:=tFor _ _ _) fun F1 hF1 _ _=>?_
 refine⟨_,rfl,1,1+(sz:Int),rfl,⟨by decide,by decide,by omega,by omega⟩,?_⟩
 refine ib (lo:=1) (n:=(1+(sz:Int) - 1).toNat) (NW H dl b p n sz) ⟨[sg t2],none,D3,WOk.one (v9 (by omega)),rfl,rfl⟩ ?_ ?_
 . rintro i σ H' hi ⟨wl,z7,D4,hw,hwl,rfl⟩
   obtain⟨e4,n4,k4⟩:=id D4
   obtain⟨t4,ht4,hat4⟩:=qr n4 (m:=36) (by decide) (by decide)
   refine⟨_,rfl,_,rfl,_,rfl,dl,n4,36,rfl,k4,(by decide),(by decide),signsT,_,sg t4,rfl,rfl,gp,hat4,toS wl,_,rfl,rfl,bn (by rw[fi];show _+1<=1000;omega),wl++[sg t4],some (.int (1+(i:Int))),D4.put hdl _,hw.snoc (wx (by omega)) (by omega),by rw[Ag,AX];omega,?_⟩
   rw[qe];rfl
 rintro σ H4 ⟨wl,z7,D4,hw,hwl,rfl⟩
 refine hF1 _ _ ?_
 have hwl':wl.length=sz+1:=by omega
 refine⟨(by decide),fun nl hnl=>?_⟩
 have D5:DI H dl (upd H4 nl (.lst [])):=D4.same (ad hnl _)
 have k5:(upd H4 nl (.lst [])) nl=some (.lst (([]:List Str).map V.str)):=aa
 have nnd:nl≠dl:=fun z=>by obtain⟨_,n,k⟩:=D4;rw[z,k] at hnl;cases hnl
 have nnH:H nl=none:=D4.1.free hnl
 dsimp only[ba]
 generalize upd H4 nl (.lst [])=H5 at D5 k5 |-
 refine ak (a:=tFor _ _ _) fun F2 hF2 _ _=>?_
 refine⟨_,rfl,_,rfl,by omega,by omega,?_⟩
 refine ib (lo:=0) (n:=(n:Int).toNat) (NL H dl nl b p n sz wl) ⟨[],z7,none,none,none,none,D5,k5,rfl,.nil,(fun x hx=>by cases hx),rfl⟩ ?_ ?_
 . rintro i σ H6 hi ⟨xs,z7,z9,z10,z11,z12,D6,k6,hxl,hxn,hxs,rfl⟩
   have hpm0:=Ca p (show (1+(sz:Int))≠0 by omega)
   have hpm1:=BQ p (show (0:Int)<1+(sz:Int) by omega)
   refine⟨_,rfl,_,rfl,_,_,rfl,rfl,(show (0:Int)<1+(sz:Int) by omega),?_⟩
   show ba 10 (.int (p % (1+(sz:Int)))) _ _ _
   obtain⟨a,ha⟩:∃a:Nat,p % (1+(sz:Int))=(a:Int):=⟨(p % (1+(sz:Int))).toNat,by omega⟩
   rw[ha] at hpm1 |-
   have hal:a<wl.length:=by omega
   obtain⟨u,hu,hwu⟩:=a3h (hw.sg _ (De hal))
   have hata:atI (toS wl).cps.toList (a:Int)=some (sg u):=by show atI wl (a:Int)=_;exact c8 (by rw[Ai hal,hwu])
   obtain⟨t7,ht7,hat7⟩:=qr ((u:Int)+(0+(i:Int))) (m:=26) (by decide) (by decide)
   dsimp only[ba]
   refine⟨_,rfl,_,rfl,rfl,_,rfl,_,rfl,toS wl,_,sg u,rfl,rfl,bn (by rw[fi];omega),hata,signsT,⟨#[sg u]⟩,rfl,rfl,by rw[mz u hu];omega,?_⟩
   rw[mz u hu]
   refine⟨_,rfl,_,_,rfl,rfl,_,_,rfl,rfl,(show (0:Int)<26 by decide),signsT,_,sg t7,rfl,rfl,gp,hat7,?_⟩
   dsimp only[ba]
   refine⟨_,rfl,_,rfl,_,rfl,toS wl,rfl,bn (by rw[fi];omega),?_⟩
   rw[a98]
   refine⟨_,rfl,_,_,rfl,rfl,bn (by rw[fi,AS];show _+1<=1000;omega),_,rfl,_,rfl,_,_,rfl,rfl,_,rfl,toS wl,rfl,bn (by rw[fi];omega),?_⟩
   have ea:((a:Int)+1)=((a+1:Nat):Int):=rfl
   rw[ea,a5d _ _ (by omega),qe]
   refine⟨_,_,rfl,rfl,bn (by rw[fi,fi,Ag,AS,Ba,AX];omega),?_⟩
   rw[a7t]
   have hv:WOk (wl.take a++[sg t7]++wl.drop (a+1)):=hw.at (v9 (by omega)) hal
   generalize wl.take a++[sg t7]++wl.drop (a+1)=v at hv |-
   dsimp only[ba]
   refine ak (a:=tIfS _ _ _) fun F3 hF3 _ _=>?_
   have tail:∀(v:List Nat) (H7:Hp) (z7':Option V),DI H dl H7->H7 nl=some (.lst (xs.map V.str))->WOk v->F3.nx [some (.int b),some (.int p),some (.int (n:Int)),some (.str signsT),some (.ref dl),some (.int (1+(sz:Int))),some (.str (toS wl)),z7',some (.ref nl),some (.int (0+(i:Int))),some (.int (a:Int)),some (.str ⟨#[sg t7]⟩),some (.str (toS v))] H7:=fun v H7 z7' D7 k7 hv=>hF3 _ _ (by
     obtain⟨pre,t,e,hp,ht⟩:=hv.wd
     refine⟨_,rfl,.inl ⟨rfl,_,SqL.of k7⟩,_,rfl,_,rfl,.mk pre t nl xs (by rw[e];rfl) hp ht k7 (by omega) fun x H8 e8 hx hn=>?_⟩
     refine⟨nl,xs.map V.str,.str x,rfl,rfl,e8 _ _ k7,cx (by rw[Ac];omega),xs++[x],_,_,_,_,_,?_,?_,?_,?_,?_,rfl⟩
     . obtain⟨d1,m,d2⟩:=D7.same e8
       refine⟨fun c o z=>?_,m,?_⟩
       . rw[ah (ao z nnH)];exact d1 _ _ z
       . rw[ah (AO nnd)];exact d2
     . rw[aa,AB];rfl
     . rw[Ag,AX,hxl]
     . exact Fj.mpr ⟨hxn,FQ _ _,fun y hy z hz e=>hx (by rw[<- Au.mp hz,<- e];exact hy)⟩
     . intro y hy
       rcases As.mp hy with hy|hy
       . exact hxs y hy
       . rw[Au.mp hy];exact hn)
   refine⟨_,rfl,_,_,rfl,rfl,(show (0:Int)<2 by decide),rfl,_,rfl,iteB (fun _=>?_) (fun _=>tail v H6 z7 D6 k6 hv)⟩
   obtain⟨e6,n6,d6⟩:=id D6
   obtain⟨t8,ht8,hat8⟩:=qr n6 (m:=26) (by decide) (by decide)
   refine⟨_,rfl,_,rfl,dl,n6,26,rfl,d6,(by decide),(by decide),signsT,_,sg t8,rfl,rfl,gp,hat8,?_⟩
   have D8:=D6.put hdl (n6 / 26)
   have k8:(upd H6 dl (.lst [.int (n6 / 26)])) nl=some (.lst (xs.map V.str)):=by rw[ah nnd];exact k6
   generalize upd H6 dl (.lst [.int (n6 / 26)])=H8 at D8 k8 |-
   obtain⟨e8,n8,d8⟩:=id D8
   have hs8:=Ca n8 (show (8:Int)≠0 by decide)
   have hs9:=BQ n8 (show (0:Int)<8 by decide)
   dsimp only[ba]
   refine⟨_,rfl,dl,n8,8,rfl,d8,(by decide),(by decide),_,rfl,by omega,by omega,?_⟩
   have D9:=D8.put hdl (n8 / 8)
   have k9:(upd H8 dl (.lst [.int (n8 / 8)])) nl=some (.lst (xs.map V.str)):=by rw[ah nnd];exact k8
   generalize upd H8 dl (.lst [.int (n8 / 8)])=H9 at D9 k9 |-
   refine ib (lo:=0) (n:=(n8 % 8).toNat) (NJ H dl nl b p n sz wl xs (some (.int (0+(i:Int)))) (some (.int (a:Int))) (some (.str ⟨#[sg t7]⟩))) ⟨[sg t8],z7,D9,k9,WOk.one (v9 (by omega)),rfl,rfl⟩ ?_ ?_
   . rintro j σ H' hj ⟨v,z7',D4,k4',hv4,hvl,rfl⟩
     obtain⟨e4,n4,k4⟩:=id D4
     obtain⟨t4,ht4,hat4⟩:=qr n4 (m:=36) (by decide) (by decide)
     refine⟨_,rfl,_,rfl,_,rfl,dl,n4,36,rfl,k4,(by decide),(by decide),signsT,_,sg t4,rfl,rfl,gp,hat4,toS v,_,rfl,rfl,bn (by rw[fi];show _+1<=1000;omega),v++[sg t4],some (.int (0+(j:Int))),D4.put hdl _,by rw[ah nnd];exact k4',hv4.snoc (wx (by omega)) (by omega),by rw[Ag,AX];omega,?_⟩
     rw[qe];rfl
   rintro σ H10 ⟨v,z7',D10,k10,hv10,hvl,rfl⟩
   exact tail v H10 z7' D10 k10 hv10
 rintro σ H6 ⟨xs,z7,z9,z10,z11,z12,D6,k6,hxl,hxn,hxs,rfl⟩
 exact hF2 _ _ ⟨_,rfl,q nl xs H6 D6.1 k6 (by omega) hxn hxs⟩
noncomputable def vK (xs:List Str) (f:Str->Int):List (Key×V):=xs.map fun x=>(Sum.inr x,.int (f x))
noncomputable def upF (f:Str->Int) (x:Str) (v:Int):Str->Int:=fun y=>if y=x then v else f y
noncomputable def hK (hp:List (Int×Addr)):List (Key×V):=hp.map fun p=>(Sum.inl p.1,.ref p.2)
noncomputable def bK (xs:List Str):List (Key×V):=xs.map fun x=>(Sum.inr x,.bl true)
theorem mn {f:Str->Int}{x:Str}:∀{xs:List Str},x∈xs->valV (vK xs f) (Sum.inr x)=some (.int (f x))
 | [],h=>by cases h
 | y::xs,h=>by
   by_cases e:y=x
   . subst e;exact iw rfl
   . rcases Al.mp h with z|z
     . exact absurd z.symm e
     . have ih:=mn (f:=f) z
       unfold valV vK at ih |-
       rw[AA,BC]
       rw[decide_eq_false (fun w=>e (Dj w))]
       exact ih
theorem lh {β:Type}{g:Str->β}{xs:List Str}{x:Str}:((xs.map fun y=>((Sum.inr y:Key),g y)).any fun kv=>decide (kv.1=(Sum.inr x:Key)))=decide (x∈xs):=by
 rw[BY,Fz,decide_eq_true_eq]
 constructor
 . rintro⟨kv,hk,he⟩
   obtain⟨y,hy,rfl⟩:=AF.mp hk
   rw[<- Dj (of_decide_eq_true he)];exact hy
 . intro h
   exact⟨_,AF.mpr ⟨x,h,rfl⟩,decide_eq_true rfl⟩
theorem a3g {f:Str->Int}{x:Str}{v:Int}{xs:List Str}(h:x∈xs):putK (vK xs f) (Sum.inr x) (.int v)=vK xs (upF f x v):=by
 unfold putK vK
 rw[lh,decide_eq_true h,if_pos rfl,Cv]
 refine Dy fun y _=>?_
 show (if (Sum.inr y:Key)=Sum.inr x then _ else _)=_
 unfold upF
 by_cases e:y=x
 . rw[if_pos (by rw[e]),if_pos e]
 . rw[if_neg (fun z=>e (Dj z)),if_neg e]
theorem a2g {f:Str->Int}{x:Str}{v:Int}{xs:List Str}(h:¬ x∈xs):putK (vK xs f) (Sum.inr x) (.int v)=vK (xs++[x]) (upF f x v):=by
 unfold putK vK
 rw[lh,decide_eq_false h,if_neg Af,AB]
 congr 1
 . refine Dy fun y hy=>?_
   unfold upF;rw[if_neg (fun z=>h (by rw[<- z];exact hy))]
 . show _=[((Sum.inr x:Key),V.int (upF f x v x))]
   unfold upF;rw[if_pos rfl]
theorem a1o {xs:List Str}{x:Str}:(valV (bK xs) (Sum.inr x)).isSome=decide (x∈xs):=by
 induction xs with
 | nil=>simp[bK,valV]
 | cons y xs ih =>
   unfold valV bK at ih |-
   rw[AA,BC]
   by_cases e:y=x
   . subst e
     rw[decide_eq_true rfl]
     simp
   . rw[decide_eq_false (fun w=>e (Dj w))]
     rw[ih]
     rw[BY,decide_eq_true_eq,decide_eq_true_eq,Al]
     exact⟨.inr,fun z=>z.elim (fun w=>absurd w.symm e) id⟩
noncomputable def addL (L:List Str) (x:Str):List Str:=if x∈L then L else L++[x]
theorem mem_addL {L:List Str}{x y:Str}:y∈addL L x↔y∈L\/y=x:=by
 unfold addL
 split
 . exact⟨.inl,fun h=>h.elim id fun e=>by rw[e];assumption⟩
 . rw[As,Au]
theorem lv {xs:List Str}{x:Str}:putK (bK xs) (Sum.inr x) (.bl true)=bK (addL xs x):=by
 unfold putK bK addL
 rw[lh (g:=fun _=>V.bl true)]
 by_cases h:x∈xs
 . rw[decide_eq_true h,if_pos rfl,if_pos h,Cv]
   refine Dy fun y _=>?_
   show (if (Sum.inr y:Key)=Sum.inr x then _ else _)=_
   by_cases e:y=x
   . rw[if_pos (by rw[e])]
   . rw[if_neg (fun z=>e (Dj z))]
 . rw[decide_eq_false h,if_neg Af,if_neg h,AB];rfl
noncomputable def xz (CM:Addr):Sp:=fun vs H Q E=>∃(m dx pd fl cd p:Addr) (fs:List (Str×V)) (g:Int) (b:Bool),vs=[.ref m]/\H m=some (.ins CM dx fs)/\MFs fs pd fl cd g b/\H fl=some (.lst [.ref p])/\Q .non H
theorem scLeave:FnScope ["self","ended"] ["self"] (au u0):=⟨rfl,rfl,rfl,by decide +kernel,rfl,by decide +kernel,by decide +kernel⟩
theorem a3p (C:Con K mg w) (T:TxM K mg CM fI) (U:TxF K mg CF fJ) (F:Fun K "leave_ended" "Machine.leave_ended" u0 f fd) (GD:FnOk P w K mg base CX0 4 gD dD ["self"] (o0 K CF)) (cD:MCal K CF "deed" gD dD ["self"]):FnOk P w K mg base CX0 5 f fd ["self"] (xz CM):=by
 refine F.okQ scLeave (fun vs H Q E h=>?_) (fun cdv A outer s0 H vs Q E hr h=>?_)
 . obtain⟨_,_,_,_,_,_,_,_,_,rfl,_⟩:=h;rfl
 obtain⟨m,dx,pd,fl,cd,p,fs,g,b,rfl,hm,hM,hfl,q⟩:=h
 have nd:=scLeave.nd
 have hu1:=dn hr
 refine⟨_,(ai (i3 AH (QW.qt (gu (aw mx (bf du rfl C.len AM (bv (b7 (K:=K) rfl (qv 0)) a0)) ab (av _)) (g8 (aw wt (dt (af ef (b7 (K:=K) rfl (qv 0)) (c7 bu ab) (fun _ _=>rfl)) U.cl cD.meth GD hr cD.bind .nil ap) gw (av _))))) (ae (ar (i:=1) nd rfl (Or.inl rfl) (vc AR En Eo wk (b7 (K:=K) rfl (qv 0))))
   (ai (bg (aw qz (b7 (K:=K) rfl (qv 1)) b6 (av _)) (ai (di hu1 (b7 (K:=K) rfl (af ef (b7 (K:=K) rfl (qv 0)) (c7 bu ab) (fun _ _=>rfl))) (b7 (K:=K) rfl (qv 1)) (fj hu1 (b7 (K:=K) rfl (qv 1)) (af ay (b7 (K:=K) rfl (qv 1)) ab (fun _ _=>rfl)) (fun _ _=>rfl)))) bq))))),?_⟩
 refine⟨fun _ σ H'=>σ=[some (.ref m),none]/\H'=H,⟨0,rfl,rfl⟩,?_⟩
 rintro k σ H' ⟨rfl,rfl⟩
 exact⟨_,rfl,m,CM,dx,fs,_,rfl,hm,T.cl,T.nF,hM.frames,fl,_,rfl,.inl (SqL.of hfl),_,_,rfl,rfl,_,rfl,iteB (fun c=>absurd c (by simp)) (fun _=>(if_neg Af).mpr q)⟩
noncomputable abbrev vp:Stmt:=top 10
noncomputable abbrev qi:Stmt:=dh (top 30) 7
noncomputable def c5 (r:Str) (i j:Int):Bool:=decide (i=j) == decide (r = "is")
inductive spHolds (K:Ab) (vs:List V) (H:Hp) (Q:VK) (E:XK):Prop
 | mk (d t:Addr) (kvs:List (Key×V)) (r x y:Str) (i j:Int) (h0:vs=[.ref d,.ref t]) (h1:H d=some (.dK kvs)) (h2:SqT K H t [.str r,.str x,.str y]) (h3:numV kvs x=some (.int i)) (h4:numV kvs y=some (.int j)) (q:Q (.bl (c5 r i j)) H):spHolds K vs H Q E
noncomputable def goP (b:Bool) (wd:Str) (p:Pre) (k:Nat):Pre×Nat:=if b=true then (p++[(k,0)],0) else if wd = "if" then (p++[(k,1)],0) else (p,k+1)
inductive spBranch (K:Ab) (CF:Addr) (vs:List V) (H:Hp) (Q:VK) (E:XK):Prop
 | mk (m p dx pr pt nd bd t c:Addr) (fs:List (Str×V)) (rc wd r x y:Str) (v0 v1 v2 v3 v4 u2 u3:V) (kvs:List (Key×V)) (i j:Int) (pp:Pre) (k:Nat) (due:Pre×Nat) (e:Option Addr) (h0:vs=[.ref m,.ref p,.ref t]) (h1:H p=some (.ins CF dx fs)) (h2:FFs fs pr pt nd rc) (h3:fs.length<50) (h4:H pr=some (.tup [v0,v1,v2,v3,v4,.ref bd])) (h5:SqT K H pt ((flat pp++[(k:Int)]).map V.int)) (h6:H t=some (.tup [.str wd,.ref c,u2,u3])) (h7:SqT K H c [.str r,.str x,.str y]) (h8:H nd=some (.dK kvs)) (h9:numV kvs x=some (.int i)) (h10:numV kvs y=some (.int j)) (h11:pp.length<=30) (h12:Stands H bd (goP (c5 r i j) wd pp k).1 (goP (c5 r i j) wd pp k).2 due e)
     (q:∀q1 fs' H',Same H H'->SqT K H' q1 ((flat due.1++[(due.2:Int)]).map V.int)->FFs fs' pr q1 nd rc->fs'.length<=fs.length+1->(∀f,f≠("path" : Str)->fs'.lookup f=fs.lookup f)->Q .non (upd H' p (.ins CF dx fs'))):spBranch K CF vs H Q E
theorem scHolds:FnScope ["values","fact","alike"] ["values","fact"] (au vp):=⟨rfl,rfl,rfl,by decide +kernel,rfl,by decide +kernel,by decide +kernel⟩
theorem a4x (C:Con K mg w) (F:Fun K "holds" "holds" vp f fd) (GN:FnOk P w K mg base CX0 1 gN dN ["values","word"] spNumOf) (cN:Cal K mg "number_of" gN dN ["values","word"]):FnOk P w K mg base CX0 2 f fd ["values","fact"] (spHolds K):=by
 refine F.okQ scHolds (fun vs H Q E h=>?_) (fun cdv A outer s0 H vs Q E hr h=>?_)
 . obtain⟨_,_,_,_,_,_,_,_,rfl,_⟩:=h;rfl
 obtain⟨d,t,kvs,r,x,y,i,j,rfl,h1,h2,h3,h4,q⟩:=h
 have nd:=scHolds.nd
 have hu1:=dn hr
 refine⟨_,ae (ar (i:=2) nd rfl (Or.inl rfl) (cz bb (aq GN hr rfl cN.name cN.keep cN.bind .nil ap (aj (qv 0) (az (af (ixTK (K:=K) rfl) (qv 1) ab (fun _ _=>rfl)) a0))) (aq GN hr rfl cN.name cN.keep cN.bind .nil ap (aj (qv 0) (az (af (ixTK (K:=K) rfl) (qv 1) ab (fun _ _=>rfl)) a0))) (av _)))
   (ai (b5 (cz bb (qv 2) (cz bb (af (ixTK (K:=K) rfl) (qv 1) ab (fun _ _=>rfl)) b6 (av _)) (av _)))),?_⟩
 refine⟨_,rfl,_,rfl,t,_,1,_,rfl,rfl,h2,rfl,jj h1 h3 ?_⟩
 refine⟨_,rfl,_,rfl,t,_,2,_,rfl,rfl,h2,rfl,jj h1 h4 ?_⟩
 refine⟨rfl,?_⟩
 dsimp only[ba]
 refine⟨_,rfl,_,rfl,t,_,0,_,rfl,rfl,h2,rfl,rfl,rfl,?_⟩
 rw[show decide (V.bl (decide (V.int i=V.int j))=V.bl (decide (V.str r=V.str "is")))=c5 r i j from ?_]
 . exact q
 unfold c5
 have e1:decide (V.int i=V.int j)=decide (i=j):=by by_cases z:i=j<;>simp[z]
 have e2:decide (V.str r=V.str ("is" : Str))=decide (r = "is"):=by by_cases z:r = "is" <;> simp[z]
 rw[e1,e2]
 cases decide (i=j)<;>cases decide (r = "is")<;>simp
theorem scBranch:FnScope ["self","frame","deed"] ["self","frame","deed"] (au qi):=⟨rfl,rfl,rfl,by decide +kernel,rfl,by decide +kernel,by decide +kernel⟩
theorem a4h (C:Con K mg w) (U:TxF K mg CF fJ) (F:Fun K "branch" "Machine.branch" qi f fd) (GH:FnOk P w K mg base CX0 2 gH dH ["values","fact"] (spHolds K)) (cH:Cal K mg "holds" gH dH ["values","fact"]) (GM:FnOk P w K mg base CX0 5 gM dM ["self","path"] (nk K CF)) (cM:MCal K CF "move" gM dM ["self","path"]) (GB:FnOk P w K mg base CX0 1 gB dB ["path"] (spBehind K)) (cB:Cal K mg "behind_deed" gB dB ["path"]):FnOk P w K mg base CX0 6 f fd ["self","frame","deed"] (spBranch K CF):=by
 refine F.okQ scBranch (fun vs H Q E h=>?_) (fun cdv A outer s0 H vs Q E hr h=>?_)
 . obtain⟨_,_,_,_,_,_,_,_,_,_,_,_,_,_,_,_,_,_,_,_,_,_,_,_,_,_,_,_,_,rfl,_⟩:=h;rfl
 obtain⟨m,p,dx,pr,pt,nd',bd,t,c,fs,rc,wd,r,x,y,v0,v1,v2,v3,v4,u2,u3,kvs,i,j,pp,k,due,e,rfl,h1,h2,h3,h4,h5,h6,h7,h8,h9,h10,h11,h12,q⟩:=h
 have nd:=scBranch.nd
 have hu1:=dn hr
 have hr1:=hr.mono (j:=1) (by omega)
 have hr2:=hr.mono (j:=2) (by omega)
 refine⟨_,(ai (bg (ft (aq GH hr2 rfl cH.name cH.keep cH.bind .nil ap (bv (b7 (K:=K) rfl (qv 1)) (az (af (ixTK (K:=K) rfl) (qv 2) ab (fun _ _=>rfl)) a0)))) (ai (bp (cv (qv 1) U.cl cM.meth GM hr cM.bind .nil ap (dq (ax (md (K:=K) rfl) (b7 (K:=K) rfl (qv 1)) (cf (b9 (b9 a0)))) a0)))) (ai (bg (aw bb (af (ixTK (K:=K) rfl) (qv 2) ab (fun _ _=>rfl)) b6 (av _)) (ai (bp (cv (qv 1) U.cl cM.meth GM hr cM.bind .nil ap (dq (ax (md (K:=K) rfl) (b7 (K:=K) rfl (qv 1)) (cf (b9 (b9 a0)))) a0)))) (ai (bp (cv (qv 1) U.cl cM.meth GM hr cM.bind .nil ap (bi (aq GB hr1 rfl cB.name cB.keep cB.bind .nil ap (bv (b7 (K:=K) rfl (qv 1)) a0)) a0)))))))),?_⟩
 refine⟨_,rfl,p,CF,dx,fs,_,rfl,h1,U.cl,U.nN,h2.numbers,_,rfl,t,_,1,_,rfl,rfl,SqT.of h6,rfl,.mk nd' c kvs r x y i j rfl h8 h7 h9 h10 ?_⟩
 unfold goP at h12
 have mv:∀s:Nat,Stands H bd (pp++[(k,s)]) 0 due e->j4 (rp CF "move" (nk K CF) [] E0 (tVar 1) (br (tOp (a1x K) (tFld K (tVar 1) "path") (tTup (br (tC (V.int (s:Int))) (br (tC (V.int 0)) tNil)))) tNil)) { nx:=fun x H'=>Q V.non H',rt:=Q } (L2.start ["self","frame","deed"] [V.ref m,V.ref p,V.ref t]) H:=fun s hs=>by
   refine⟨_,rfl,p,dx,fs,rfl,h1,h2.meth _ (by simp),_,rfl,p,CF,dx,fs,_,rfl,h1,U.cl,U.nA,h2.path,(show 2<=sizeLine by decide),fun u hu=>?_⟩
   have s1:=ad hu (.tup [.int (s:Int),.int 0])
   have k1:(upd H u (.tup [.int (s:Int),.int 0])) u=some (.tup [.int (s:Int),.int 0]):=aa
   generalize upd H u (.tup [.int (s:Int),.int 0])=H1 at s1 k1 |-
   refine⟨pt,u,_,_,rfl,rfl,s1.seqT h5,SqT.of k1,(by simp),(by simp),bn (by rw[Ac,Ag,cm];simp;omega),fun u3 hu3=>?_⟩
   have s2:=ad hu3 (.tup ((flat pp++[(k:Int)]).map V.int++[.int (s:Int),.int 0]))
   have k2:(upd H1 u3 (.tup ((flat pp++[(k:Int)]).map V.int++[.int (s:Int),.int 0]))) u3=some (.tup ((flat (pp++[(k,s)])++[((0:Nat):Int)]).map V.int)):=by
     rw[aa,gy]
     simp[flat]
   generalize upd H1 u3 (.tup ((flat pp++[(k:Int)]).map V.int++[.int (s:Int),.int 0]))=H2 at s2 k2 |-
   have e2:=s1.trans s2
   refine⟨p,dx,pr,pt,nd',bd,u3,fs,rc,v0,v1,v2,v3,v4,pp++[(k,s)],0,due,e,rfl,e2 _ _ h1,h2,h3,e2 _ _ h4,SqT.of k2,hs.same e2,(by rw[Ag];simp;omega),fun q1 fs' H3 e3 hq hf hl hlk=>?_⟩
   exact q q1 fs' H3 (e2.trans e3) hq hf hl hlk
 refine⟨_,rfl,iteB (fun hb=>?_) (fun hb=>?_)⟩
 . rw[if_pos hb] at h12
   exact mv 0 h12
 . rw[if_neg (by rw[hb];simp)] at h12
   refine⟨_,rfl,t,_,0,_,rfl,rfl,SqT.of h6,rfl,rfl,_,rfl,iteB (fun hw=>?_) (fun hw=>?_)⟩
   . rw[if_pos (V.str.inj (of_decide_eq_true hw))] at h12
     exact mv 1 h12
   . rw[if_neg (fun z=>of_decide_eq_false hw (by rw[z]))] at h12
     refine⟨_,rfl,p,dx,fs,rfl,h1,h2.meth _ (by simp),_,rfl,p,CF,dx,fs,_,rfl,h1,U.cl,U.nA,h2.path,.mk pt (flat pp) (k:Int) rfl h5 (by rw[cm];omega) fun q0 H1 e1 hq0=>?_⟩
     refine⟨p,dx,pr,pt,nd',bd,q0,fs,rc,v0,v1,v2,v3,v4,pp,k+1,due,e,rfl,e1 _ _ h1,h2,h3,e1 _ _ h4,hq0,h12.same e1,(by omega),fun q1 fs' H3 e3 hq hf hl hlk=>?_⟩
     exact q q1 fs' H3 (e1.trans e3) hq hf hl hlk
noncomputable def nilF (f:Str->Int):Str->Int:=upF f "nil" 0
theorem xb {zs:List Str}{F:Str->Int}{y:Str}(h:y∈zs++[("nil" : Str)]):numV (vK zs F) y=some (.int (nilF F y)):=by
 unfold numV nilF upF
 by_cases e:y = "nil"
 . rw[if_pos e,if_pos e]
 . rw[if_neg e,if_neg e]
   exact mn ((As.mp h).elim id fun z=>absurd (Au.mp z) e)
noncomputable def zz:Sp:=fun _ _ _ _=>False
theorem a7i {P:Program}{w:World}{K:Ab}{mg:Str->Option Value}{base:Heap}{CX:CXT}{k:Nat}{f:Addr}{fd:FuncData}{ps:List Str}:FnOk P w K mg base CX k f fd ps zz:=⟨fun _ _ _ _ h=>h.elim,fun _ _ _ _ _ _ _ _ _ _ _ _ _ h=>h.elim⟩
theorem a57:places.lookup ("set" : Str)=none/\places.lookup ("if" : Str)=none/\places.lookup ("while" : Str)=none:=by
 unfold places
 simp only[Ej]
 refine⟨?_,?_,?_⟩
 . rw[show (("set" : Str) == ("read" : Str))=false by decide +kernel,show (("set" : Str) == ("write" : Str))=false by decide +kernel,show (("set" : Str) == ("free" : Str))=false by decide +kernel];rfl
 . rw[show (("if" : Str) == ("read" : Str))=false by decide +kernel,show (("if" : Str) == ("write" : Str))=false by decide +kernel,show (("if" : Str) == ("free" : Str))=false by decide +kernel];rfl
 . rw[show (("while" : Str) == ("read" : Str))=false by decide +kernel,show (("while" : Str) == ("write" : Str))=false by decide +kernel,show (("while" : Str) == ("free" : Str))=false by decide +kernel];rfl
noncomputable def KpP (p nd:Addr) (H H':Hp):Prop:=∀b o,H b=some o->b≠p->b≠nd->H' b=some o
structure M1 (K:Ab) (CM CF:Addr) (X H:Hp) (m dm pd fl cd p pr nd bd:Addr) (fm:List (Str×V)) (g:Int) (ys:List Str) (F:Str->Int) (pp:Pre) (k j:Nat):Prop where
 sX:Same X H
 np:X p=none
 nn:X nd=none
 hm:X m=some (.ins CM dm fm)
 mf:MFs fm pd fl cd g false
 hfl:X fl=some (.lst [.ref p])
 hcd:X cd=some (.dK [])
 hpr:∃v0 v1 v2 v3 v4,X pr=some (.tup [v0,v1,v2,v3,v4,.ref bd])
 hp:∃dx fs pt,H p=some (.ins CF dx fs)/\FFs fs pr pt nd "" /\ fs.length<=4+j/\SqT K H pt ((flat pp++[(k:Int)]).map V.int)
 hnd:H nd=some (.dK (vK ys F))
 ly:ys.length<=20
 lp:pp.length<=30
theorem M1.same {K:Ab}{CM CF:Addr}{X H H':Hp}{m dm pd fl cd p pr nd bd:Addr}{fm:List (Str×V)}{g:Int}{ys:List Str}{F:Str->Int}{pp:Pre}{k j:Nat}(h:M1 K CM CF X H m dm pd fl cd p pr nd bd fm g ys F pp k j) (e:Same H H'):M1 K CM CF X H' m dm pd fl cd p pr nd bd fm g ys F pp k j:=by
 obtain⟨dx,fs,pt,h1,h2,h3,h4⟩:=h.hp
 exact⟨h.sX.trans e,h.np,h.nn,h.hm,h.mf,h.hfl,h.hcd,h.hpr,⟨dx,fs,pt,e _ _ h1,h2,h3,e.seqT h4⟩,e _ _ h.hnd,h.ly,h.lp⟩
inductive DoN (K:Ab) (X:Hp) (bd:Addr) (ys:List Str) (F:Str->Int) (pp:Pre) (k:Nat) (t:Addr):(Str->Int)->Pre×Nat->Prop
 | set (x y:Str) (due:Pre×Nat) (e:Option Addr) (ht:X t=some (.tup [.str "set",.str x,.str y])) (hx:x∈ys) (hy:y∈ys++[("nil" : Str)]) (hs:Stands X bd pp (k+1) due e):DoN K X bd ys F pp k t (upF F x (nilF F y)) due
 | branch (wd r x y:Str) (c:Addr) (u2:V) (u3:Addr) (due:Pre×Nat) (e:Option Addr) (hw:wd = "while" \/ wd = "if" /\ ∃m2,u2=.ref m2) (ht:X t=some (.tup [.str wd,.ref c,u2,.ref u3])) (hc:X c=some (.tup [.str r,.str x,.str y])) (hx:x∈ys++[("nil" : Str)]) (hy:y∈ys++[("nil" : Str)]) (hs:Stands X bd (goP (c5 r (nilF F x) (nilF F y)) wd pp k).1 (goP (c5 r (nilF F x) (nilF F y)) wd pp k).2 due e):DoN K X bd ys F pp k t F due
inductive spStep (K:Ab) (CM CF:Addr) (vs:List V) (H:Hp) (Q:VK) (E:XK):Prop
 | fin (X:Hp) (m dm pd fl cd p pr nd bd l:Addr) (fm:List (Str×V)) (g:Int) (ys:List Str) (F:Str->Int) (pp:Pre) (k j:Nat) (ts:List Addr) (h0:vs=[.ref m]) (h1:M1 K CM CF X H m dm pd fl cd p pr nd bd fm g ys F pp k j) (hj:j<=40) (hl:LFrom X bd pp l) (hts:X l=some (.lst (ts.map V.ref))) (hk:ts.length<=k) (q:∀H',Same H H'->Q .non H'):spStep K CM CF vs H Q E
 | go (X:Hp) (m dm pd fl cd p pr nd bd l t:Addr) (fm:List (Str×V)) (g:Int) (ys:List Str) (F F':Str->Int) (pp:Pre) (k j:Nat) (due:Pre×Nat) (ts:List Addr) (h0:vs=[.ref m]) (h1:M1 K CM CF X H m dm pd fl cd p pr nd bd fm g ys F pp k j) (hj:j<=40) (hl:LFrom X bd pp l) (hts:X l=some (.lst (ts.map V.ref))) (hk:ts[k]? = some t) (hd:DoN K X bd ys F pp k t F' due) (h30:due.1.length<=30) (q:∀H',M1 K CM CF X H' m dm pd fl cd p pr nd bd fm g ys F' due.1 due.2 (j+1)->KpP p nd H H'->Q .non H'):spStep K CM CF vs H Q E
theorem scStep:FnScope ["self","frame","deed","name"] ["self"] (au wu):=⟨rfl,rfl,rfl,by decide +kernel,rfl,by decide +kernel,by decide +kernel⟩
theorem M1.ma {X H:Hp}{m dm pd fl cd p pr nd bd:Addr}{fm:List (Str×V)}{g:Int}{ys:List Str}{F:Str->Int}{pp:Pre}{k j:Nat}(h:M1 K CM CF X H m dm pd fl cd p pr nd bd fm g ys F pp k j) (hj:j<=40):∃pt,MaAt CM CF H m pd fl cd p pr pt nd [] g false "" /\ SqT K H pt ((flat pp++[(k:Int)]).map V.int):=by
 obtain⟨dx,fs,pt,h1,h2,h3,h4⟩:=h.hp
 exact⟨pt,⟨⟨dm,fm,h.sX _ _ h.hm,h.mf⟩,h.sX _ _ h.hfl,⟨dx,fs,h1,h2,by omega⟩⟩,h4⟩
theorem a8u (C:Con K mg w) (T:TxM K mg CM fI) (U:TxF K mg CF fJ) (F:Fun K "step" "Machine.step" wu f fd) (GW:FnOk P w K mg base CX0 5 gW dW ["self"] (spWord K CM CF)) (cW:MCal K CM "word" gW dW ["self"]) (GD:FnOk P w K mg base CX0 4 gD dD ["self"] (o0 K CF)) (cD:MCal K CF "deed" gD dD ["self"])
   (GN:FnOk P w K mg base CX0 2 gN dN ["self","word"] (vg CF)) (cN:MCal K CF "number" gN dN ["self","word"]) (GB:FnOk P w K mg base CX0 6 gB dB ["self","frame","deed"] (spBranch K CF)) (cB:MCal K CM "branch" gB dB ["self","frame","deed"]) (cE:MCal K CM "enter" gE dE ["self","frame","deed"]) (GC:FnOk P w K mg base CX0 3 gC dC ["self","frame","deed"] (spChange CM CF)) (cC:MCal K CM "change" gC dC ["self","frame","deed"])
   (GM:FnOk P w K mg base CX0 5 gM dM ["self","path"] (nk K CF)) (cM:MCal K CF "move" gM dM ["self","path"]) (GL:FnOk P w K mg base CX0 5 gL dL ["self"] (xz CM)) (cL:MCal K CM "leave_ended" gL dL ["self"]) (GK:FnOk P w K mg base CX0 1 gK dK ["deed"] (spCellName K)) (cK:Cal K mg "cell_name" gK dK ["deed"]) (GH:FnOk P w K mg base CX0 1 gH dH ["path"] (spBehind K)) (cH:Cal K mg "behind_deed" gH dH ["path"]):FnOk P w K mg base CX0 7 f fd ["self"] (spStep K CM CF):=by
 have GE:FnOk P w K mg base CX0 0 gE dE ["self","frame","deed"] zz:=a7i
 refine F.okQ scStep (fun vs H Q E h=>?_) (fun cdv A outer s0 H vs Q E hr h=>?_)
 . rcases h with⟨_,_,_,_,_,_,_,_,_,_,_,_,_,_,_,_,_,_,_,rfl,_⟩|⟨_,_,_,_,_,_,_,_,_,_,_,_,_,_,_,_,_,_,_,_,_,_,rfl,_⟩<;>rfl
 have nd:=scStep.nd
 have hu1:=dn hr
 have hr0:=hr.mono (j:=0) (by omega)
 have hr1:=hr.mono (j:=1) (by omega)
 have hr2:=hr.mono (j:=2) (by omega)
 have hr3:=hr.mono (j:=3) (by omega)
 have hr4:=hr.mono (j:=4) (by omega)
 have hr5:=hr.mono (j:=5) (by omega)
 refine⟨_,ae (bg (aw qz (dt (qv 0) T.cl cW.meth GW hr5 cW.bind .nil ap) b6 (av _)) (ai a06) bq)
   (ae (ar (i:=1) nd rfl (Or.inl rfl) (af (ixK (K:=K) rfl) (b7 (K:=K) rfl (qv 0)) (c7 bu ab) (fun _ _=>rfl)))
   (ae (ar (i:=2) nd rfl (Or.inl rfl) (dt (qv 1) U.cl cD.meth GD hr4 cD.bind .nil ap))
   (ae (ar (i:=3) nd rfl (Or.inl rfl) (aq GK hr1 rfl cK.name cK.keep cK.bind .nil ap (aj (qv 2) a0)))
   (ae (bg (QW.qt (gu (aw a85 (qv 3) gw (av _)) (g8 (a1t hu1 (cv (qv 1) U.cl cN.meth GN hr2 cN.bind .nil ap (aj (qv 3) a0)) (b7 (K:=K) rfl (qv 0)))))) (ae (ee (K:=K) rfl (qv 0) ge)
   (ai a06)) bq)
   (ae (bg (aw (a7n (K:=K) rfl) (af (ixTK (K:=K) rfl) (qv 2) ab (fun _ _=>rfl)) (cf (c6 (c6 a0))) (by with_unfolding_all rfl)) (ai (bp (cv (qv 0) T.cl cB.meth GB hr cB.bind .nil ap (aj (qv 1) (aj (qv 2) a0))))) (ai (bg (aw bb (af (ixTK (K:=K) rfl) (qv 2) ab (fun _ _=>rfl)) b6 (av _)) (ai (bp (cv (qv 0) T.cl cE.meth GE hr0 cE.bind .nil ap (aj (qv 1) (aj (qv 2) a0))))) (ae (bp (cv (qv 0) T.cl cC.meth GC hr3 cC.bind .nil ap (aj (qv 1) (aj (qv 2) a0))))
   (ai (bp (cv (qv 1) U.cl cM.meth GM hr5 cM.bind .nil ap (bi (aq GH hr1 rfl cH.name cH.keep cH.bind .nil ap (bv (b7 (K:=K) rfl (qv 1)) a0)) a0))))))))
   (ai (bp (dt (qv 0) T.cl cL.meth GL hr5 cL.bind .nil ap)))))))),?_⟩
 rcases h with⟨X,m,dm,pd,fl,cd,p,pr,nd',bd,l,fm,g,ys,F0,pp,k,j,ts,rfl,h1,hj,hl,hts,hk,q⟩|⟨X,m,dm,pd,fl,cd,p,pr,nd',bd,l,t,fm,g,ys,F0,F',pp,k,j,due,ts,rfl,h1,hj,hl,hts,hk,hd,h30,q⟩
 . obtain⟨pt,ma,hpt⟩:=h1.ma hj
   obtain⟨v0,v1,v2,v3,v4,hpr⟩:=h1.hpr
   refine⟨_,rfl,m,dm,fm,rfl,h1.sX _ _ h1.hm,h1.mf.meth _ (by decide +kernel),.fine m pd fl cd p pr pt nd' bd l [] g "" v0 v1 v2 v3 v4 pp k ts rfl ma (h1.sX _ _ hpr) hpt (hl.same h1.sX) (by have:=h1.lp;omega) (h1.sX _ _ hts) fun H1 e1=>?_⟩
   rw[if_neg (by omega)]
   exact⟨rfl,_,rfl,iteB (fun _=>q H1 e1) (fun c=>absurd c (by decide +kernel))⟩
 obtain⟨pt,ma,hpt⟩:=h1.ma hj
 obtain⟨v0,v1,v2,v3,v4,hpr⟩:=h1.hpr
 have hkl:=(Aq.mp hk).1
 have l100:pp.length<=100:=by have:=h1.lp;omega
 refine⟨_,rfl,m,dm,fm,rfl,h1.sX _ _ h1.hm,h1.mf.meth _ (by decide +kernel),.fine m pd fl cd p pr pt nd' bd l [] g "" v0 v1 v2 v3 v4 pp k ts rfl ma (h1.sX _ _ hpr) hpt (hl.same h1.sX) l100 (h1.sX _ _ hts) fun H1 e1=>?_⟩
 rw[if_pos hkl]
 refine⟨rfl,_,rfl,iteB (fun c=>absurd c (by simp)) (fun _=>?_)⟩
 have S1:=h1.same e1
 obtain⟨dx,fs,pt,hp1,ff,lf,hpt1⟩:=S1.hp
 have hfl1:H1 fl=some (.lst ([]++[V.ref p])):=S1.sX _ _ h1.hfl
 refine⟨_,rfl,m,CM,dm,fm,_,rfl,S1.sX _ _ h1.hm,T.cl,T.nF,h1.mf.frames,_,rfl,fl,_,_,_,rfl,rfl,SqL.of hfl1,bh,?_⟩
 refine⟨_,rfl,p,dx,fs,rfl,hp1,ff.meth _ (by simp),p,dx,pr,pt,nd',bd,fs,"",v0,v1,v2,v3,v4,rfl,hp1,ff,S1.sX _ _ hpr,bd,pt,l,pp,k,ts,rfl,hpt1,hl.same S1.sX,l100,S1.sX _ _ hts,fun t' H2 ht' e2'=>?_,fun H2 hn' _=>by rw[hk] at hn';cases hn'⟩
 rw[hk] at ht';cases ht'
 have S2:=S1.same e2'
 have e02:=e1.trans e2'
 have w0:∃wd us,X t=some (.tup (.str wd::us))/\places.lookup wd=none:=by
   obtain⟨p1,p2,p3⟩:=a57
   cases hd with
   | set x y due e ht=>exact⟨_,_,ht,p1⟩
   | branch wd r x y c u2 u3 due e hw ht=>exact⟨_,_,ht,by rcases hw with rfl|⟨rfl,_⟩;exact p3;exact p2⟩
 obtain⟨wd,us,hwt,hwp⟩:=w0
 dsimp only[ba]
 refine ak (a:=tAsg _ _) fun D2 hD2 _ _=>?_
 refine⟨_,rfl,.none t wd us rfl (SqT.of (S2.sX _ _ hwt)) hwp ?_⟩
 refine hD2 [some (.ref m),some (.ref p),some (.ref t),some .non] _ ?_
 clear hD2
 refine ak (a:=tIfS _ _ _) fun D3 hD3 _ _=>?_
 refine⟨_,rfl,rfl,_,rfl,iteB (fun c=>absurd c (by simp)) (fun _=>(if_neg Af).mpr (hD3 _ _ ?_))⟩
 clear hD3
 refine ak (a:=tIfS _ _ _) fun D4 hD4 _ _=>?_
 refine⟨_,rfl,t,_,0,_,rfl,rfl,SqT.of (S2.sX _ _ hwt),at0,(show 2<=sizeLine by decide),fun p2 hp2=>?_⟩
 have s3:=ad hp2 (.tup [.str "if",.str "while"])
 have k3:(upd H2 p2 (.tup [.str "if",.str "while"])) p2=some (.tup (([("if" : Str),"while"]:List Str).map V.str)):=aa
 generalize upd H2 p2 (.tup [.str "if",.str "while"])=H3 at s3 k3 |-
 have S3:=S2.same s3
 have e03:=e02.trans s3
 have hp3:=(e2'.trans s3) _ _ hp1
 have hpt3:=(e2'.trans s3).seqT hpt1
 have nmp:m≠p:=fun z=>by have:=h1.hm;rw[z,h1.np] at this;cases this
 have nfp:fl≠p:=fun z=>by have:=h1.hfl;rw[z,h1.np] at this;cases this
 have npn:nd'≠p:=fun z=>by have:=S3.hnd;rw[z,hp3] at this;cases this
 refine⟨p2,_,rfl,.inr (SqT.of k3),rfl,gn _,_,rfl,?_⟩
 rw[gl]
 have leave:∀(H4:Hp) (q1:Addr) (fs':List (Str×V)),Same X H4->H4 p=some (.ins CF dx fs)->H4 nd'=some (.dK (vK ys F'))->SqT K H4 q1 ((flat due.1++[(due.2:Int)]).map V.int)->FFs fs' pr q1 nd' "" -> fs'.length<=fs.length+1->KpP p nd' H H4->D4.nx [some (.ref m),some (.ref p),some (.ref t),some .non] (upd H4 p (.ins CF dx fs')):=fun H4 q1 fs' sx hp4 hn4 hq1 hff hl4 kp=>by
   refine hD4 _ _ ?_
   have sx':Same X (upd H4 p (.ins CF dx fs')):=fun b o z=>by rw[ah (ao z h1.np)];exact sx _ _ z
   have hq':SqT K (upd H4 p (.ins CF dx fs')) q1 ((flat due.1++[(due.2:Int)]).map V.int):=by
     rcases hq1 with (z|⟨o,z⟩)|z
     . exact .inl (.inl (by rw[ah (fun y=>by rw[y,hp4] at z;cases z)];exact z))
     . exact .inl (.inr ⟨o,by rw[ah (fun y=>by rw[y,hp4] at z;cases z)];exact z⟩)
     . exact .inr z
   refine⟨_,rfl,m,dm,fm,rfl,sx' _ _ h1.hm,h1.mf.meth _ (by decide +kernel),m,dm,pd,fl,cd,p,fm,g,false,rfl,sx' _ _ h1.hm,h1.mf,sx' _ _ h1.hfl,q _ ⟨sx',h1.np,h1.nn,h1.hm,h1.mf,h1.hfl,h1.hcd,h1.hpr,⟨dx,fs',q1,aa,hff,by omega,hq'⟩,by rw[ah npn];exact hn4,h1.ly,h30⟩ fun b o z n1 n2=>?_⟩
   rw[ah n1];exact kp b o z n1 n2
 cases hd with
 | set x y due e ht hx hy hs =>
   rw[hwt] at ht;cases ht
   rw[if_neg Af]
   refine iteB (fun c=>absurd (of_decide_eq_true c) (by decide +kernel)) (fun _=>?_)
   refine⟨_,rfl,t,_,0,_,rfl,rfl,SqT.of (S3.sX _ _ hwt),at0,rfl,_,rfl,iteB (fun c=>absurd (V.str.inj (of_decide_eq_true c)) (by decide +kernel)) (fun _=>?_)⟩
   refine⟨_,rfl,m,dm,fm,rfl,S3.sX _ _ h1.hm,h1.mf.meth _ (by decide +kernel),_,rfl,_,rfl,.set m p dx pr pt nd' t fs "" x y (vK ys F0) (.int (nilF F0 y)) rfl hp3 ff (S3.sX _ _ hwt) S3.hnd (by unfold vK;rw[Ac];have:=h1.ly;omega) (xb hy) ?_⟩
   rw[a3g hx]
   have sx4:Same X (upd H3 nd' (.dK (vK ys (upF F0 x (nilF F0 y))))):=fun b o z=>by rw[ah (ao z h1.nn)];exact S3.sX _ _ z
   have hp4:(upd H3 nd' (.dK (vK ys (upF F0 x (nilF F0 y))))) p=some (.ins CF dx fs):=by rw[ah (AO npn)];exact hp3
   have hn4:(upd H3 nd' (.dK (vK ys (upF F0 x (nilF F0 y))))) nd'=some (.dK (vK ys (upF F0 x (nilF F0 y)))):=aa
   have hpt4:SqT K (upd H3 nd' (.dK (vK ys (upF F0 x (nilF F0 y))))) pt ((flat pp++[(k:Int)]).map V.int):=by
     have hn3:=S3.hnd
     rcases hpt3 with (z|⟨o,z⟩)|z
     . exact .inl (.inl (by rw[ah (fun y=>by rw[y,hn3] at z;cases z)];exact z))
     . exact .inl (.inr ⟨o,by rw[ah (fun y=>by rw[y,hn3] at z;cases z)];exact z⟩)
     . exact .inr z
   have kp4:KpP p nd' H (upd H3 nd' (.dK (vK ys (upF F0 x (nilF F0 y))))):=fun b o z n1 n2=>by rw[ah n2];exact e03 _ _ z
   generalize upd H3 nd' (.dK (vK ys (upF F0 x (nilF F0 y))))=H4 at sx4 hp4 hn4 hpt4 kp4 |-
   refine⟨_,rfl,p,dx,fs,rfl,hp4,ff.meth _ (by simp),?_⟩
   refine⟨_,rfl,p,CF,dx,fs,_,rfl,hp4,U.cl,U.nA,ff.path,.mk pt (flat pp) (k:Int) rfl hpt4 (by rw[cm];have:=h1.lp;omega) fun q0 H5 e5 hq0=>?_⟩
   refine⟨p,dx,pr,pt,nd',bd,q0,fs,"",v0,v1,v2,v3,v4,pp,k+1,due,e,rfl,e5 _ _ hp4,ff,(by omega),e5 _ _ (sx4 _ _ hpr),hq0,(hs.same sx4).same e5,(by have:=h1.lp;omega),fun q1 fs' H6 e6 hq1 hff hl6 _=>?_⟩
   have e46:=e5.trans e6
   exact leave H6 q1 fs' (sx4.trans e46) (e46 _ _ hp4) (e46 _ _ hn4) hq1 hff hl6 fun b o z n1 n2=>e46 _ _ (kp4 b o z n1 n2)
 | branch wd' r x y c u2 u3 due e hw ht hc hx hy hs =>
   rw[hwt] at ht;cases ht
   rw[if_neg Af]
   refine iteB (fun _=>?_) (fun c=>absurd (by rcases hw with rfl|⟨rfl,_⟩<;>simp) (of_decide_eq_false c))
   refine⟨_,rfl,m,dm,fm,rfl,S3.sX _ _ h1.hm,h1.mf.meth _ (by decide +kernel),_,rfl,_,rfl,.mk m p dx pr pt nd' bd t c fs "" wd r x y v0 v1 v2 v3 v4 u2 (.ref u3) (vK ys F0) _ _ pp k due e rfl hp3 ff (by omega) (S3.sX _ _ hpr) hpt3 (S3.sX _ _ hwt) (SqT.of (S3.sX _ _ hc)) S3.hnd (xb hx) (xb hy) h1.lp (hs.same S3.sX) fun q1 fs' H6 e6 hq1 hff hl6 _=>?_⟩
   exact leave H6 q1 fs' (S3.sX.trans e6) (e6 _ _ hp3) (e6 _ _ S3.hnd) hq1 hff hl6 fun b o z n1 n2=>e6 _ _ (e03 _ _ z)
noncomputable abbrev u6:Stmt:=dh (top 30) 2
inductive spWhere (K:Ab) (CM CF:Addr) (vs:List V) (H:Hp) (Q:VK) (E:XK):Prop
 | mk (X:Hp) (m dm pd fl cd p pr nd bd l:Addr) (fm:List (Str×V)) (g:Int) (ys:List Str) (F:Str->Int) (pp:Pre) (k j:Nat) (ts:List Addr) (nm:Str) (us:List V) (h0:vs=[.ref m]) (h1:M1 K CM CF X H m dm pd fl cd p pr nd bd fm g ys F pp k j) (hj:j<=40) (hl:LFrom X bd pp l) (hts:X l=some (.lst (ts.map V.ref))) (hpr:X pr=some (.tup (.str nm::us))) (q0:ts.length<=k->∀H',Same H H'->Q .non H') (q1:k<ts.length->∀r pt H',Same H H'->H' r=some (.tup [.str nm,.ref pt])->SqT K H' pt ((flat pp++[(k:Int)]).map V.int)->Q (.ref r) H'):spWhere K CM CF vs H Q E
theorem scWhere:FnScope ["self"] ["self"] (au u6):=⟨rfl,rfl,rfl,by decide +kernel,rfl,by decide +kernel,by decide +kernel⟩
theorem a53 (C:Con K mg w) (T:TxM K mg CM fI) (U:TxF K mg CF fJ) (F:Fun K "where" "Machine.where" u6 f fd) (GW:FnOk P w K mg base CX0 5 gW dW ["self"] (spWord K CM CF)) (cW:MCal K CM "word" gW dW ["self"]):FnOk P w K mg base CX0 6 f fd ["self"] (spWhere K CM CF):=by
 refine F.okQ scWhere (fun vs H Q E h=>?_) (fun cdv A outer s0 H vs Q E hr h=>?_)
 . obtain⟨_,_,_,_,_,_,_,_,_,_,_,_,_,_,_,_,_,_,_,_,_,rfl,_⟩:=h;rfl
 have nd:=scWhere.nd
 refine⟨_,ae (bg (aw bb (dt (qv 0) T.cl cW.meth GW hr cW.bind .nil ap) b6 (av _)) (ai (b5 gw)) bq)
   (ai (b5 (cf (az (af (ixTK (K:=K) rfl) (b7 (K:=K) rfl (af (ixK (K:=K) rfl) (b7 (K:=K) rfl (qv 0)) (c7 bu ab) (fun _ _=>rfl))) ab (fun _ _=>rfl)) (bv (b7 (K:=K) rfl (af (ixK (K:=K) rfl) (b7 (K:=K) rfl (qv 0)) (c7 bu ab) (fun _ _=>rfl))) a0))))),?_⟩
 obtain⟨X,m,dm,pd,fl,cd,p,pr,nd',bd,l,fm,g,ys,F0,pp,k,j,ts,nm,us,rfl,h1,hj,hl,hts,hnm,q0,q1⟩:=h
 obtain⟨pt,ma,hpt⟩:=h1.ma hj
 obtain⟨v0,v1,v2,v3,v4,hpr⟩:=h1.hpr
 refine⟨_,rfl,m,dm,fm,rfl,h1.sX _ _ h1.hm,h1.mf.meth _ (by decide +kernel),.fine m pd fl cd p pr pt nd' bd l [] g "" v0 v1 v2 v3 v4 pp k ts rfl ma (h1.sX _ _ hpr) hpt (hl.same h1.sX) (by have:=h1.lp;omega) (h1.sX _ _ hts) fun H1 e1=>?_⟩
 by_cases hk:k<ts.length
 . rw[if_pos hk]
   refine⟨rfl,_,rfl,iteB (fun c=>absurd c (by decide +kernel)) (fun _=>?_)⟩
   have S1:=h1.same e1
   obtain⟨dx,fs,pt,hp1,ff,lf,hpt1⟩:=S1.hp
   have hfl1:H1 fl=some (.lst ([]++[V.ref p])):=S1.sX _ _ h1.hfl
   have hm1:=S1.sX _ _ h1.hm
   exact⟨_,rfl,m,CM,dm,fm,_,rfl,hm1,T.cl,T.nF,h1.mf.frames,_,rfl,fl,_,_,_,rfl,rfl,SqL.of hfl1,bh,p,CF,dx,fs,_,rfl,hp1,U.cl,U.nP,ff.procedure,pr,_,0,_,rfl,rfl,SqT.of (S1.sX _ _ hnm),at0,_,rfl,m,CM,dm,fm,_,rfl,hm1,T.cl,T.nF,h1.mf.frames,_,rfl,fl,_,_,_,rfl,rfl,SqL.of hfl1,bh,p,CF,dx,fs,_,rfl,hp1,U.cl,U.nA,ff.path,(show 2<=sizeLine by decide),fun r hr=>q1 hk r pt _ (e1.trans (ad hr _)) aa ((ad hr _).seqT hpt1)⟩
 . rw[if_neg hk]
   exact⟨rfl,_,rfl,iteB (fun _=>q0 (by omega) H1 e1) (fun c=>absurd c (by decide +kernel))⟩
end K51
namespace L2
open PySem PySem.Spec PyProof.Rows
section
variable {prog:Program}{w:World}{A:Around}{E:Value->Shared->Prop}{s:Shared}
theorem r0 {it t:Addr}{items:Array Value}(hne:t≠it):∀(n i:Nat) (s:Shared) (Q:List Value->Shared->Prop),s.heap.IsListIter it t i->s.heap.IsList t items->i+n<=items.size->
   (∀h',h'.IsListIter it t (i+n)->Ct it s.heap h'->Q ((items.toList.drop i).take n) { s with heap:=h' })->wpAny (model prog w) A (draw (.ref it) n) Q E s
 | 0,i,s,Q,hit,_,_,hQ=>by
   show wpAny _ _ (pure []) Q E s
   exact Ae (by simpa using hQ s.heap hit (HP ..))
 | n+1,i,s,Q,hit,ht,hle,hQ=>by
   have hlt:i<items.size:=by omega
   show wpAny _ _ (pyNext (.ref it) >>= _) Q E s
   refine Aa (Eb hit ht (x:=items[i]) (by simp[hlt]) fun h₁ hit₁ hs₁=>?_)
   refine Aa (AZ (r0 hne n (i+1) _ _ hit₁ (ht.extBut hs₁.extBut hne) (by omega) fun h₂ hit₂ hs₂=>Ae ?_))
   have hd:items.toList.drop i=items[i]::items.toList.drop (i+1):=by simp[DF,hlt]
   have:=hQ h₂ (by rw[show i+(n+1)=i+1+n by omega];exact hit₂) (hs₁.trans hs₂)
   rw[hd,List.take_succ_cons] at this
   exact this
theorem oo {t:Addr}{items:Array Value}{Q:List Value->Shared->Prop}(hh:A.handled=none) (ht:s.heap.IsList t items)
   (hQ:∀h',Gh s.heap.objs.size s.heap h'->Q items.toList { s with heap:=h' }):wpAny (model prog w) A (unpackItems (.ref t) items.size none) Q E s:=by
 have hlt:t≠s.heap.objs.size:=by obtain⟨o,ho,_⟩:=ht;exact Az (Ap ho)
 have ht':(s.heap.push { cls:=.type "list_iterator",data:=.fields #[.ref t,.int 0 0] }).IsList t items:=by obtain⟨o,ho,r⟩:=ht;exact⟨o,Ad _ ho,r⟩
 have hty:s.TypeIs (.ref t) "list" := by obtain⟨o,ho,hc,_⟩:=ht;exact⟨o,ho,hc⟩
 unfold unpackItems
 refine Aa ?_
 . unfold notIterableAtAll
   refine Aa (FU hty F.slot_list_iter.lookup ?_)
   refine Ae ?_
   simp only[Bt,if_false]
   refine Aa (AZ (CQ ht ?_))
   refine Aa (AZ (r0 hlt items.size 0 _ _ ⟨_,An _ rfl,rfl,rfl⟩ ht' (by omega) fun h₁ hit₁ hs₁=>?_))
   have hall:List.take items.size (List.drop 0 items.toList)=items.toList:=by
     rw[CW];exact Bj (by simp)
   rw[hall]
   rw[if_neg (by simp)]
   have ht₁:h₁.IsList t items:=ht'.extBut hs₁.extBut hlt
   refine Aa (AZ (Ek hh hit₁ ht₁ (by simp) fun h₂ he₂=>?_))
   simp only[Option.isSome_none,Bt,if_false]
   refine Ae (hQ h₂ fun b o hb e=>he₂ b o hb (hs₁.extBut b o hb (Ad _ e)))
theorem li {env:Env}{elts:List Expr}{x1} {pos:Pos}{t:Addr}{items:Array Value}{Q:Unit->Shared->Prop}(hh:A.handled=none) (ht:s.heap.IsList t items)
   (hn:(assignEach elts env).length=items.size) (hstar:(assignEach elts env).findIdx? (·.1)=none)
   (h:∀h',Gh s.heap.objs.size s.heap h'->wpAny (model prog w) A (assignInOrder ((assignEach elts env).map (·.2)) items.toList) Q E { s with heap:=h' }) :
   wpAny (model prog w) A (assign (.Tuple elts x1 pos) env (.ref t)) Q E s:=by
 rw[assign_Tuple]
 refine Aa (EZ ?_)
 unfold unpack
 rw[hn,hstar]
 exact Aa (AZ (oo hh ht h))
end
section
variable {X:Cx}{pos:Pos}
noncomputable def gLst (K:Ab) (n:Nat) (t:TGs):TG:=fun v σ H Q=>∃a xs,v=.ref a/\SqL K H a xs/\xs.length=n/\t xs σ H Q
theorem a7g {es:List Expr}{k:Nat}{t:TGs}{n:Nat}(hc:X.calm=true) (h:PGs X es t)
   (hn:(assignEach es X.env).length=n:=by rfl) (hst:(assignEach es X.env).findIdx? (·.1)=none:=by rfl):PG X (.Tuple es k pos) (gLst X.K n t):=by
 intro pins s σ H v u Q I r hw
 obtain⟨a,xs,e1,hq,hl,hw⟩:=hw
 subst e1
 cases r
 obtain⟨its,rv,ht,hz⟩:=I.list hq
 refine li (I.ok.hd hc) ht.isList (by simp[hn,<- hl,rv.length]) hst fun h' hx=>?_
 have I1:Inv X pins σ H { s with heap:=h' }:=I.kept (t':=s.toks) fun b o e=>hx b o (Az (Ap e)) e
 exact h pins _ σ H xs _ Q I1 (by simpa using rv) hw
theorem sr {o i e:Expr}{to ti te:TE}{tget:V->V->Hp->VK->Prop}{tip:TIp}{tset:TSet}{op:Operator}{tpos:Pos}(ho:QE X o to) (hi:QE X i ti) (hg:PGet X tget) (he:QE X e te) (hp:PIp X op tip) (hs:PSet X tset)
   (ha:∀ov iv new,augStore i ov iv new=(do holding [new,ov,iv] (setItem ov iv new);release [new,ov,iv] [];pure .next):=by intros;rfl):QS X (.AugAssign (.Subscript o i tpos) op e pos) (a72 to ti te tget tip tset):=⟨a86 ho.run hi.run hg he.run hp hs ha⟩
inductive rGetL (K:Ab) (o i:V) (H:Hp) (Q:VK):Prop
 | mk (p:Addr) (xs:List V) (j:Nat) (z:V) (h0:o=.ref p) (h1:i=.int (j:Int)) (h2:SqL K H p xs) (h3:xs[j]? = some z) (q:Q z H):rGetL K o i H Q
theorem l8 {K:Ab}(hK:X.K=K):PGet X (rGetL K):=by
 subst hK
 intro pins s σ H o i ov iv Q I ro ri h
 obtain⟨p,xs,j,z,rfl,rfl,hq,hj,q⟩:=h
 cases ro
 obtain⟨t,rfl⟩:=ri
 obtain⟨its,r,pl,hz⟩:=I.list hq
 obtain⟨w,ew,rw'⟩:=r.get hj
 have hl:=r.length
 have hlt:=(Aq.mp hj).1
 have hn:xs.length<2 ^ 63:=Bs hz (by decide)
 exact wpAny_getItem_list pl.isList (by omega) (by omega) (by rw[Cr];exact ew) ⟨z,H,I,rw',q⟩
end
end L2
namespace K51
open PySem PySem.Spec L2 Mir
variable {P:Program}{w:World}{K:Ab}{mg:Str->Option Value}{base:Heap}{f g gS gN gA gW gI gL gF gO gT gB C fI CM CF fJ gD gR gU gH gM gE gC gK gP gX:Addr}{fd gd dS dN dA dW dI dL dF dO dT dB dD dR dU dH dM dE dC dK dP dX:FuncData}
noncomputable abbrev u4:Stmt:=top 41
theorem Side.uniq {X:Hp}{t m m':Addr}{s:Nat}(h:Side X t s m) (h':Side X t s m'):m=m':=by
 rcases h with⟨i,o,c,h,hs⟩|⟨c,d,h,hs⟩<;>rcases h' with⟨i',o',c',h',hs'⟩|⟨c',d',h',hs'⟩<;>rw[h] at h'<;>cases h'
 . rcases hs with⟨rfl,rfl⟩|⟨rfl,rfl⟩<;>rcases hs' with⟨z,rfl⟩|⟨z,rfl⟩
   . rfl
   . cases z
   . cases z
   . rfl
 . rfl
theorem LFrom.uniq {X:Hp}:∀{p:Pre}{l a b:Addr},LFrom X l p a->LFrom X l p b->a=b
 | [],_,_,_,h,h'=>h.symm.trans h'
 | (k,s)::p,l,a,b,⟨ts,t,m,h1,h2,h3,h4⟩,⟨ts',t',m',h1',h2',h3',h4'⟩=>by
   have e:=fe h1 h1'
   subst e
   rw[h2] at h2';cases h2'
   have e:=h3.uniq h3'
   subst e
   exact LFrom.uniq h4 h4'
structure Tr where
 ce:Addr
 l:Addr
 k:Nat
 hd:Addr
 pp:Pre
 ag:Bool
structure TrAt (K:Ab) (X H:Hp) (c:Tr):Prop where
 xc:X c.ce=none
 hc:H c.ce=some (.lst [.ref c.l,.int (c.k:Int),.ref c.hd,.bl c.ag])
 hh:SqT K H c.hd ((flat c.pp).map V.int)
noncomputable def InR (X:Hp) (b:Tr) (s:Nat) (c:Tr):Prop:=∃(ts:List Addr) (t:Addr),X b.l=some (.lst (ts.map V.ref))/\ts[b.k]? = some t/\c.pp=b.pp++[(b.k,s)]/\
 ((c.ag=false/\∃cc i o,X t=some (.tup [.str "if",cc,.ref i,.ref o])/\((s=0/\c.l=i)\/(s=1/\c.l=o)))\/(c.ag=true/\s=0/\∃cc d,X t=some (.tup [.str "while",cc,d,.ref c.l])))
inductive Td (X:Hp) (bd:Addr):List Tr->Prop
 | top (c:Tr) (hl:c.l=bd) (hp:c.pp=[]):Td X bd [c]
 | deep (c b:Tr) (r:List Tr) (s:Nat) (h:Td X bd (b::r)) (hi:InR X b s c):Td X bd (c::b::r)
theorem InR.side {X:Hp}{b c:Tr}{s:Nat}(h:InR X b s c):∃(ts:List Addr) (t:Addr),X b.l=some (.lst (ts.map V.ref))/\ts[b.k]? = some t/\Side X t s c.l:=by
 obtain⟨ts,t,h1,h2,_,h3⟩:=h
 refine⟨ts,t,h1,h2,?_⟩
 rcases h3 with⟨_,cc,i,o,h4,h5⟩|⟨_,h5,cc,d,h4⟩
 . exact .cond i o cc h4 h5
 . exact .loop cc d h4 h5
theorem Td.from {X:Hp}{bd:Addr}{cs:List Tr}(h:Td X bd cs):∀c r,cs=c::r->LFrom X bd c.pp c.l:=by
 induction h with
 | top c hl hp=>intro c' r e;cases e;rw[hp];exact hl.symm
 | deep c b r s h hi ih =>
   intro c' r' e;cases e
   obtain⟨ts,t,h1,h2,h3⟩:=hi.side
   obtain⟨_,_,_,_,hp,_⟩:=hi
   rw[hp]
   exact (ih b r rfl).app ⟨ts,t,c.l,h1,h2,h3,rfl⟩
theorem Td.head {X:Hp}{bd:Addr}{c:Tr}{r:List Tr}(h:Td X bd (c::r)) (k':Nat):Td X bd ({ c with k:=k' }::r):=by
 cases h with
 | top _ hl hp=>exact .top _ hl hp
 | deep _ b r s h hi=>exact .deep _ b r s h hi
structure TSt (K:Ab) (X H:Hp) (bd cl:Addr) (cs:List Tr):Prop where
 sX:Same X H
 xl:X cl=none
 hcl:H cl=some (.lst ((cs.map fun c=>V.ref c.ce).reverse))
 at_:∀c∈cs,TrAt K X H c
 ne:cl∉cs.map (·.ce)
 nc:(cs.map (·.ce)).Nodup
 td:Td X bd cs
noncomputable def KpT (cl:Addr) (cs:List Tr) (H H':Hp):Prop:=∀b o,H b=some o->b≠cl->b∉cs.map (·.ce)->H' b=some o
theorem TSt.putK {K:Ab}{X H:Hp}{bd cl:Addr}{c:Tr}{r:List Tr}{k':Nat}(h:TSt K X H bd cl (c::r)):TSt K X (upd H c.ce (.lst [.ref c.l,.int (k':Int),.ref c.hd,.bl c.ag])) bd cl ({ c with k:=k' }::r):=by
 have a:=h.at_ c Aj
 refine⟨fun b o z=>by rw[ah (ao z a.xc)];exact h.sX _ _ z,h.xl,by rw[ah (fun z=>h.ne (by rw[z];exact Aj))];exact h.hcl,fun d hd=>?_,h.ne,h.nc,h.td.head k'⟩
 rcases Al.mp hd with rfl|hd
 . exact⟨a.xc,aa,l9 a.hc a.hh⟩
 . have b:=h.at_ d (Ao _ hd)
   have nv:d.ce≠c.ce:=fun z=>(Bb.mp h.nc).1 (by have y:=Cj (f:=fun x:Tr=>x.ce) hd;rw[z] at y;exact y)
   exact⟨b.xc,by rw[ah nv];exact b.hc,l9 a.hc b.hh⟩
theorem TSt.pop {K:Ab}{X H:Hp}{bd cl:Addr}{c b:Tr}{r:List Tr}(h:TSt K X H bd cl (c::b::r)):TSt K X (upd H cl (.lst (((b::r).map fun c=>V.ref c.ce).reverse))) bd cl (b::r):=by
 refine⟨fun b o z=>by rw[ah (ao z h.xl)];exact h.sX _ _ z,h.xl,aa,fun d hd=>?_,fun z=>h.ne (Ao _ z),(Bb.mp h.nc).2,?_⟩
 . have a:=h.at_ d (Ao _ hd)
   exact⟨a.xc,by rw[ah (fun z=>h.ne (Ao _ (by rw[<- z];exact Cj hd)))];exact a.hc,l9 h.hcl a.hh⟩
 . cases h.td with
   | deep _ _ _ s h hi=>exact h
theorem a1j {X:Hp}{bd:Addr}{c:Tr}{r:List Tr}{due:Pre×Nat}{e:Option Addr}(h:Td X bd (c::r)) (hs:Stands X bd c.pp c.k due e):∃ts:List Addr,X c.l=some (.lst (ts.map V.ref))/\((c.k<ts.length/\due=(c.pp,c.k))\/(c.k=ts.length/\LEnd X bd c.pp c.l due e)):=by
 have hf:=h.from c r rfl
 rcases hs with⟨l,t,ts,hl,h1,hk,hd,he⟩|⟨l,ts,hl,h1,hk⟩
 . have:=hl.uniq hf;subst this
   exact⟨ts,h1,.inl ⟨(Aq.mp hk).1,hd⟩⟩
 . have:=hl.from.uniq hf;subst this
   exact⟨ts,h1,.inr ⟨hk,hl⟩⟩
theorem xh {p q:Pre}{a b:Nat×Nat}(h:p++[a]=q++[b]):p=q/\a=b:=by
 have:=List.append_inj' h rfl
 exact⟨this.1,(Hm this.2).1⟩
theorem a82 {X:Hp}{bd:Addr}{c b:Tr}{r:List Tr}{due:Pre×Nat}{e:Option Addr}(h:Td X bd (c::b::r)) (hs:LEnd X bd c.pp c.l due e):Stands X bd b.pp (if c.ag=true then b.k else b.k+1) due e:=by
 cases h with
 | deep _ _ _ s h hi =>
   have hf:=h.from b r rfl
   obtain⟨ts,t,h1,h2,hp,h3⟩:=hi
   obtain⟨p',k',s',l',t',ts',ep,hl',h1',h2',h3'⟩:=hs.up (by rw[hp];simp)
   rw[hp] at ep
   obtain⟨rfl,ek⟩:=xh ep
   cases ek
   have:=hl'.uniq hf;subst this
   have:=fe h1 h1';subst this
   rw[h2] at h2';cases h2'
   rcases h3 with⟨ag,cc,i,o,h4,_⟩|⟨ag,_,cc,d,h4⟩
   . rw[ag,if_neg Af]
     rcases h3' with⟨_,_,_,h5,h6⟩|⟨_,_,_,h5,h6⟩
     . exact h6
     . rw[h4] at h5;injection h5 with h5;injection h5 with h5;simp at h5;exact absurd h5.1 (by decide +kernel)
   . rw[ag,if_pos rfl]
     rcases h3' with⟨_,_,_,h5,h6⟩|⟨_,_,_,h5,h6⟩
     . rw[h4] at h5;injection h5 with h5;injection h5 with h5;simp at h5;exact absurd h5.1 (by decide +kernel)
     . exact h6
inductive spSettle (K:Ab) (vs:List V) (H:Hp) (Q:VK) (E:XK):Prop
 | mk (X:Hp) (bd cl:Addr) (c:Tr) (r:List Tr) (due:Pre×Nat) (e:Option Addr) (h0:vs=[.ref cl]) (hS:TSt K X H bd cl (c::r)) (hs:Stands X bd c.pp c.k due e) (q:∀H' c' r',TSt K X H' bd cl (c'::r')->(c'.pp,c'.k)=due->KpT cl (c::r) H H'->(∀b∈c'::r',b.ce∈(c::r).map (·.ce))->Q .non H'):spSettle K vs H Q E
theorem scSettle:FnScope ["_law_todo","_law_done"] ["_law_todo"] (au u4):=⟨rfl,rfl,rfl,by decide +kernel,rfl,by decide +kernel,by decide +kernel⟩
theorem a0o (C:Con K mg w) (F:Fun K "_law_settle" "_law_settle" u4 f fd):FnOk P w K mg base CX0 1 f fd ["_law_todo"] (spSettle K):=by
 refine F.okQ scSettle (fun vs H Q E h=>?_) (fun cdv A outer s0 H vs Q E hr h=>?_)
 . obtain⟨_,_,_,_,_,_,_,rfl,_⟩:=h;rfl
 obtain⟨X,bd,cl,c,r,due,e,rfl,hS,hs,q⟩:=h
 have nd:=scSettle.nd
 have hu1:=dn hr
 refine⟨_,(ai (i3 AH (QW.qt (gu (aw mx (bf (lenK (K:=K) rfl) rfl C.len AM (aj (qv 0) a0)) ab (av _)) (g8 (aw bb (af (ixK (K:=K) rfl) (af (ixK (K:=K) rfl) (qv 0) (c7 bu ab) (fun _ _=>rfl)) ab (fun _ _=>rfl)) (bf (lenK (K:=K) rfl) rfl C.len AM (az (af (ixK (K:=K) rfl) (af (ixK (K:=K) rfl) (qv 0) (c7 bu ab) (fun _ _=>rfl)) ab (fun _ _=>rfl)) a0)) (av _))))) (ae (ar (i:=1) nd rfl (Or.inl rfl) (vc AR En Eo wk (qv 0)))
   (ai (bg (mh (ft (af (ixK (K:=K) rfl) (qv 1) ab (fun _ _=>rfl)))) (ai (sr (af (ixK (K:=K) rfl) (qv 0) (c7 bu ab) (fun _ _=>rfl)) ab (l8 (K:=K) rfl) ab vz i5)) bq))))),?_⟩
 have lastOf:∀{G:Hp} {a:Tr} {r:List Tr},TSt K X G bd cl (a::r)->G cl=some (.lst ((r.map fun c=>V.ref c.ce).reverse++[V.ref a.ce])):=fun h=>by rw[h.hcl,AA,CS]
 refine⟨fun n σ G=>∃(a:Tr) (r':List Tr) (z:Option V),n=r'.length/\σ=[some (.ref cl),z]/\TSt K X G bd cl (a::r')/\Stands X bd a.pp a.k due e/\KpT cl (c::r) H G/\∀b∈a::r',b.ce∈(c::r).map (·.ce),⟨r.length,c,r,none,rfl,rfl,hS,hs,fun _ _ z _ _=>z,fun b hb=>Cj hb⟩,?_⟩
 rintro n σ G ⟨a,r',z,rfl,rfl,S,st,kp,inn⟩
 have lenr:((r'.map fun c=>V.ref c.ce).reverse++[V.ref a.ce]).length=r'.length+1:=by rw[Ag,C0,Ac];rfl
 have S1:=S.at_ a Aj
 obtain⟨ts,hts,hk⟩:=a1j S.td st
 refine⟨_,rfl,cl,_,rfl,.inl (SqL.of (lastOf S)),_,_,rfl,rfl,_,rfl,iteB (fun c1=>?_) (fun c1=>?_)⟩
 . rw[lenr] at c1
   obtain⟨b,r2,rfl⟩:∃b r2,r'=b::r2:=by
     cases r' with
     | nil=>exact absurd (of_decide_eq_true c1) (by simp)
     | cons b r2=>exact⟨b,r2,rfl⟩
   refine⟨_,rfl,_,rfl,cl,_,_,_,rfl,rfl,SqL.of (lastOf S),bh,a.ce,_,1,_,rfl,rfl,SqL.of S1.hc,rfl,_,rfl,_,rfl,cl,_,_,_,rfl,rfl,SqL.of (lastOf S),bh,a.ce,_,0,_,rfl,rfl,SqL.of S1.hc,at0,a.l,_,rfl,.inl (SqL.of (S.sX _ _ hts)),rfl,_,rfl,iteB (fun c2=>?_) (fun c2=>?_)⟩
   . have hk1:a.k=ts.length:=by
       have:=V.int.inj (of_decide_eq_true c2)
       rw[Ac] at this
       omega
     have hle:=(hk.resolve_left fun z=>by omega).2
     have st':=a82 S.td hle
     have hla:((((b::r2).map fun c=>V.ref c.ce).reverse++[V.ref a.ce]))[((((b::r2).map fun c=>V.ref c.ce).reverse++[V.ref a.ce])).length - 1]? = some (V.ref a.ce):=by
       rw[Ag,AX,HH];exact Dt
     refine⟨fun σ' G'=>∃(b':Tr) (z:Option V),σ'=[some (.ref cl),z]/\TSt K X G' bd cl (b'::r2)/\Stands X bd b'.pp b'.k due e/\b'.ce=b.ce/\KpT cl (c::r) H G',fun σ' G' hN=>?_,?_⟩
     . obtain⟨b',z,rfl,S',st2,e1,kp'⟩:=hN
       refine⟨r2.length,Cb _,b',r2,z,rfl,rfl,S',st2,kp',fun d hd=>?_⟩
       rcases Al.mp hd with rfl|hd
       . rw[e1];exact inn b (Ao _ Aj)
       . exact inn d (Ao _ (Ao _ hd))
     refine ak (a:=tAsg _ _) fun E1 hE1 _ _=>?_
     refine⟨_,rfl,.inl ⟨rfl,_,SqL.of (lastOf S)⟩,cl,_,_,rfl,rfl,lastOf S,hla,?_⟩
     rw[Hg]
     have S2:=S.pop
     have nac:a.ce≠cl:=fun z=>S.ne (by rw[<- z];exact Aj)
     have hca:(upd G cl (.lst (((b::r2).map fun c=>V.ref c.ce).reverse))) a.ce=some (.lst [.ref a.l,.int (a.k:Int),.ref a.hd,.bl a.ag]):=by rw[ah nac];exact S1.hc
     have kp2:KpT cl (c::r) H (upd G cl (.lst (((b::r2).map fun c=>V.ref c.ce).reverse))):=fun d o z n1 n2=>by rw[ah n1];exact kp d o z n1 n2
     generalize upd G cl (.lst (((b::r2).map fun c=>V.ref c.ce).reverse))=G2 at S2 hca kp2 |-
     refine hE1 [some (.ref cl),some (.ref a.ce)] _ ?_
     clear hE1
     refine⟨_,rfl,a.ce,_,3,_,rfl,rfl,SqL.of hca,rfl,?_⟩
     have Sb:=S2.at_ b Aj
     refine⟨_,rfl,iteB (fun c3=>?_) (fun c3=>?_)⟩
     . have ag:a.ag=false:=by cases h:a.ag with
         | true=>rw[h] at c3;cases c3
         | false=>rfl
       rw[ag,if_neg Af] at st'
       refine⟨_,rfl,_,rfl,cl,_,_,_,rfl,rfl,SqL.of (lastOf S2),bh,.mk b.ce _ 1 _ rfl rfl (SqL.of Sb.hc) rfl ⟨_,_,rfl,rfl,b.ce,_,1,1,rfl,rfl,Sb.hc,rfl,?_⟩⟩
       refine⟨{ b with k:=b.k+1 },_,rfl,S2.putK (k':=b.k+1),st',rfl,fun d o z n1 n2=>?_⟩
       rw[ah (fun y=>n2 (by rw[y];exact inn b (Ao _ Aj)))]
       exact kp2 d o z n1 n2
     . have ag:a.ag=true:=by cases h:a.ag with
         | true=>rfl
         | false=>rw[h] at c3;cases c3
       rw[ag,if_pos rfl] at st'
       exact⟨b,_,rfl,S2,st',rfl,kp2⟩
   . have hk1:¬ a.k=ts.length:=fun z=>by
       refine absurd ?_ (of_decide_eq_false c2)
       rw[Ac,z]
     have hd:=(hk.resolve_right fun z=>hk1 z.1).2
     exact q G a _ S hd.symm kp inn
 . have e1:r'=[]:=by
     cases r' with
     | nil=>rfl
     | cons b r2=>rw[lenr] at c1;exact absurd (show ((((b::r2).length+1:Nat)):Int)>1 by simp only[A0];omega) (of_decide_eq_false c1)
   subst e1
   refine (if_neg Af).mpr (q G a [] S ?_ kp inn)
   rcases hk with⟨_,hd⟩|⟨hk1,hle⟩
   . exact hd.symm
   . cases S.td with
     | top _ hl hp =>
       obtain⟨ts',_,h1,h2,_⟩:=hle.zero hp
       rw[hl] at hts
       have:=fe hts h1
       subst this
       rw[hp,hk1,h2]
noncomputable abbrev wc:Stmt:=top 42
theorem lr {X:Cx}{K:Ab}(h:X.K=K):OpR X (binaryOp .Add) (xq K):=by subst h;exact xf
theorem TSt.same {K:Ab}{X H H':Hp}{bd cl:Addr}{cs:List Tr}(h:TSt K X H bd cl cs) (e:Same H H'):TSt K X H' bd cl cs:=⟨h.sX.trans e,h.xl,e _ _ h.hcl,fun c hc=>⟨(h.at_ c hc).xc,e _ _ (h.at_ c hc).hc,e.seqT (h.at_ c hc).hh⟩,h.ne,h.nc,h.td⟩
theorem TSt.last {K:Ab}{X H:Hp}{bd cl:Addr}{c:Tr}{r:List Tr}(h:TSt K X H bd cl (c::r)):H cl=some (.lst ((r.map fun c=>V.ref c.ce).reverse++[V.ref c.ce])):=by rw[h.hcl,AA,CS]
inductive spPlace (K:Ab) (vs:List V) (H:Hp) (Q:VK) (E:XK):Prop
 | mk (X:Hp) (bd cl:Addr) (c:Tr) (r:List Tr) (h0:vs=[.ref cl]) (hS:TSt K X H bd cl (c::r)) (h30:c.pp.length<=30) (q:∀a H',Same H H'->SqT K H' a ((flat c.pp++[(c.k:Int)]).map V.int)->Q (.ref a) H'):spPlace K vs H Q E
theorem scPlace:FnScope ["_law_todo"] ["_law_todo"] (au wc):=⟨rfl,rfl,rfl,by decide +kernel,rfl,by decide +kernel,by decide +kernel⟩
theorem a6h (C:Con K mg w) (F:Fun K "_law_place" "_law_place" wc f fd):FnOk P w K mg base CX0 1 f fd ["_law_todo"] (spPlace K):=by
 refine F.okQ scPlace (fun vs H Q E h=>?_) (fun cdv A outer s0 H vs Q E hr h=>?_)
 . obtain⟨_,_,_,_,_,rfl,_⟩:=h;rfl
 obtain⟨X,bd,cl,c,r,rfl,hS,h30,q⟩:=h
 have nd:=scPlace.nd
 have hu1:=dn hr
 refine⟨_,(ai (b5 (ax (lr (K:=K) rfl) (af (ixK (K:=K) rfl) (af (ixK (K:=K) rfl) (qv 0) (c7 bu ab) (fun _ _=>rfl)) ab (fun _ _=>rfl)) (cf (az (af (ixK (K:=K) rfl) (af (ixK (K:=K) rfl) (qv 0) (c7 bu ab) (fun _ _=>rfl)) ab (fun _ _=>rfl)) a0))))),?_⟩
 have a:=hS.at_ c Aj
 refine⟨_,rfl,_,rfl,cl,_,_,_,rfl,rfl,SqL.of hS.last,bh,c.ce,_,2,_,rfl,rfl,SqL.of a.hc,rfl,_,rfl,_,rfl,cl,_,_,_,rfl,rfl,SqL.of hS.last,bh,c.ce,_,1,_,rfl,rfl,SqL.of a.hc,rfl,(show 1<=sizeLine by decide),fun u hu=>?_⟩
 have s1:=ad hu (.tup [.int (c.k:Int)])
 have k1:(upd H u (.tup [.int (c.k:Int)])) u=some (.tup [.int (c.k:Int)]):=aa
 generalize upd H u (.tup [.int (c.k:Int)])=H1 at s1 k1 |-
 refine⟨c.hd,u,_,_,rfl,rfl,s1.seqT a.hh,SqT.of k1,bn (by rw[Ac,cm];simp;omega),fun p H2 e2 hp=>q p H2 (s1.trans e2) (by rw[AB];exact hp)⟩
noncomputable abbrev tu:Stmt:=top 44
inductive spChosen (K:Ab) (vs:List V) (H:Hp) (Q:VK) (E:XK):Prop
 | mk (X:Hp) (bd cl t:Addr) (c:Tr) (r:List Tr) (ts:List Addr) (wd:Str) (cc:V) (u2:V) (m3:Addr) (b:Bool) (h0:vs=[.ref cl,.ref t,.bl b]) (hS:TSt K X H bd cl (c::r)) (h30:c.pp.length<=20) (hl:X c.l=some (.lst (ts.map V.ref))) (hk:ts[c.k]? = some t) (ht:X t=some (.tup [.str wd,cc,u2,.ref m3])) (hw:wd = "while" \/ wd = "if" /\ ∃m2,u2=.ref m2)
     (q:∀H' c' r',TSt K X H' bd cl (c'::r')->(c'.pp,c'.k)=goP b wd c.pp c.k->KpT cl (c::r) H H'->(∀d∈c'::r',d.ce∈(c::r).map (·.ce)\/H d.ce=none)->Q .non H'):spChosen K vs H Q E
theorem Td.len {X:Hp}{bd:Addr}{cs:List Tr}(h:Td X bd cs):∀c r,cs=c::r->r.length=c.pp.length:=by
 induction h with
 | top c hl hp=>intro c' r e;cases e;rw[hp];rfl
 | deep c b r s h hi ih =>
   intro c' r' e;cases e
   obtain⟨_,_,_,_,hp,_⟩:=hi
   rw[hp,A0,Ag,ih b r rfl];rfl
theorem TSt.push {K:Ab}{X H:Hp}{bd cl:Addr}{c:Tr}{r:List Tr}(h:TSt K X H bd cl r) (a:TrAt K X H c) (n1:c.ce≠cl) (n2:c.ce∉r.map (·.ce)) (td:Td X bd (c::r)):TSt K X (upd H cl (.lst ((r.map fun c=>V.ref c.ce).reverse++[V.ref c.ce]))) bd cl (c::r):=by
 refine⟨fun b o z=>by rw[ah (ao z h.xl)];exact h.sX _ _ z,h.xl,by rw[aa,AA,CS],fun d hd=>?_,fun z=>?_,Bb.mpr ⟨n2,h.nc⟩,td⟩
 . rcases Al.mp hd with rfl|hd
   . exact⟨a.xc,by rw[ah n1];exact a.hc,l9 h.hcl a.hh⟩
   . have b:=h.at_ d hd
     exact⟨b.xc,by rw[ah (fun z=>h.ne (by rw[<- z];exact Cj hd))];exact b.hc,l9 h.hcl b.hh⟩
 . rcases Al.mp z with z|z
   . exact n1 z.symm
   . exact h.ne z
theorem scChosen:FnScope ["_law_todo","_law_deed","_law_holds_now","_law_side","_law_inner"] ["_law_todo","_law_deed","_law_holds_now"] (au tu):=⟨rfl,rfl,rfl,by decide +kernel,rfl,by decide +kernel,by decide +kernel⟩
theorem a2o (C:Con K mg w) (F:Fun K "_law_chosen" "_law_chosen" tu f fd) (GP:FnOk P w K mg base CX0 1 gP dP ["_law_todo"] (spPlace K)) (cP:Cal K mg "_law_place" gP dP ["_law_todo"]):FnOk P w K mg base CX0 2 f fd ["_law_todo","_law_deed","_law_holds_now"] (spChosen K):=by
 refine F.okQ scChosen (fun vs H Q E h=>?_) (fun cdv A outer s0 H vs Q E hr h=>?_)
 . obtain⟨_,_,_,_,_,_,_,_,_,_,_,_,rfl,_⟩:=h;rfl
 obtain⟨X,bd,cl,t,c,r,ts,wd,cc,u2,m3,b,rfl,hS,h30,hl,hk,ht,hw,q⟩:=h
 have nd:=scChosen.nd
 have hu1:=dn hr
 refine⟨_,(ai (bg (QW.qt (gu (aw bb (af (ixTK (K:=K) rfl) (qv 1) ab (fun _ _=>rfl)) b6 (av _)) (g8 (mh (ft (qv 2)))))) (ai (sr (af (ixK (K:=K) rfl) (qv 0) (c7 bu ab) (fun _ _=>rfl)) ab (l8 (K:=K) rfl) ab vz i5)) (ae (ar (i:=3) nd rfl (Or.inl rfl) (be en rfl C.int BN (bv (a9m (cz bb (af (ixTK (K:=K) rfl) (qv 1) ab (fun _ _=>rfl)) b6 (av _)) (a91 (a95 (qv 2)))) a0)))
   (ae (ar (i:=4) nd rfl (Or.inl rfl) (af (ixTK (K:=K) rfl) (qv 1) (af (ixK (K:=K) rfl) (bw (b9 (dq (ax cg ab (qv 3)) a0))) (be en rfl C.int BN (bv (cz bb (af (ixTK (K:=K) rfl) (qv 1) ab (fun _ _=>rfl)) b6 (av _)) a0)) (fun _ _=>rfl)) (fun _ _=>rfl)))
   (ai (bp (fq (K:=K) rfl AR BL BM em (qv 0) (fh (aj (qv 4) (b9 (dq (ax (lr (K:=K) rfl) (aq GP hr rfl cP.name cP.keep cP.bind .nil ap (aj (qv 0) a0)) (cf (aj (qv 3) a0))) (bv (cz bb (af (ixTK (K:=K) rfl) (qv 1) ab (fun _ _=>rfl)) b6 (av _)) a0)))) a0)))))))),?_⟩
 have a:=hS.at_ c Aj
 have t0:=hS.sX _ _ ht
 have ifT:∀{x y:Str},x=y->decide (V.str x=V.str y)=true:=fun z=>by rw[z];simp
 have ifF:∀{x y:Str},x≠y->decide (V.str x=V.str y)=false:=fun z=>decide_eq_false fun y=>z (V.str.inj y)
 have nwi:("while" : Str) ≠ "if" := by decide +kernel
 have push:∀(G:Hp) (e0:Same H G) (s:Nat) (m:Addr),goP b wd c.pp c.k=(c.pp++[(c.k,s)],0)->(∀ce hd,InR X c s ⟨ce,m,0,hd,c.pp++[(c.k,s)],decide (V.str wd=V.str "while")⟩)->j4 (tBM K "list" se (tVar 0) (br (tLst (br (tVar 4) (br (tC (V.int 0)) (br (tOp (xq K) (a1m (spPlace K) [] E0 (br (tVar 0) tNil)) (tTup (br (tVar 3) tNil))) (br (tOp rEq (tOp (rIxT K) (tVar 1) (tC (V.int 0))) (tC (V.str "while"))) tNil))))) tNil)) { nx:=fun x H'=>Q V.non H',rt:=Q } [some (.ref cl),some (.ref t),some (.bl b),some (.int (s:Int)),some (.ref m)] G:=fun G e0 s m hg hi=>by
   have S0:=hS.same e0
   have hlen:=hS.td.len c r rfl
   refine⟨_,rfl,.inl ⟨rfl,_,SqL.of S0.last⟩,_,rfl,_,rfl,.mk X bd cl c r rfl S0 (by omega) fun p1 H1 e1 hp1=>?_⟩
   refine⟨_,rfl,(show 1<=sizeLine by decide),fun u hu=>?_⟩
   have s2:=ad hu (.tup [.int (s:Int)])
   have k2:(upd H1 u (.tup [.int (s:Int)])) u=some (.tup [.int (s:Int)]):=aa
   generalize upd H1 u (.tup [.int (s:Int)])=H2 at s2 k2 |-
   refine⟨p1,u,_,_,rfl,rfl,s2.seqT hp1,SqT.of k2,bn (by rw[Ac,Ag,cm];simp;omega),fun hd H3 e3 hh3=>?_⟩
   have e03:=((e0.trans e1).trans s2).trans e3
   refine⟨_,rfl,t,_,0,_,rfl,rfl,SqT.of (e03 _ _ t0),at0,rfl,(show 4<=sizeLine by decide),fun ce hce=>?_⟩
   have s4:=ad hce (.lst [.ref m,.int 0,.ref hd,.bl (decide (V.str wd=V.str "while"))])
   have k4:(upd H3 ce (.lst [.ref m,.int 0,.ref hd,.bl (decide (V.str wd=V.str "while"))])) ce=some (.lst [.ref m,.int 0,.ref hd,.bl (decide (V.str wd=V.str "while"))]):=aa
   dsimp only
   generalize upd H3 ce (.lst [.ref m,.int 0,.ref hd,.bl (decide (V.str wd=V.str "while"))])=H4 at s4 k4 |-
   have e04:=e03.trans s4
   have S4:=hS.same e04
   have hh4:SqT K H4 hd ((flat (c.pp++[(c.k,s)])).map V.int):=by
     have:=s4.seqT hh3
     rw[gy]
     simpa [flat] using this
   have nce:H ce=none:=e03.free hce
   refine⟨cl,_,_,rfl,rfl,S4.hcl,cx (by rw[C0,Ac,A0];omega),?_⟩
   have S5:=S4.push (c:=⟨ce,m,0,hd,c.pp++[(c.k,s)],decide (V.str wd=V.str "while")⟩) ⟨hS.sX.free nce,k4,hh4⟩ (fun z=>by have y:=hS.hcl;rw[<- z] at y;rw[show H ce=none from nce] at y;cases y) (fun z=>by
     obtain⟨d,hd',e⟩:=AF.mp z
     have y:=(hS.at_ d hd').hc
     rw[show d.ce=ce from e,nce] at y;cases y) (.deep _ c r s hS.td (hi ce hd))
   refine q _ _ _ S5 hg.symm (fun d o z n1 n2=>?_) fun d hd'=>?_
   . rw[ah n1];exact e04 _ _ z
   . rcases Al.mp hd' with rfl|hd'
     . exact .inr nce
     . exact .inl (Cj hd')
 refine⟨_,rfl,t,_,0,_,rfl,rfl,SqT.of t0,at0,rfl,_,rfl,iteB (fun c1=>?_) (fun c1=>?_)⟩
 . have ew:wd = "while" := V.str.inj (of_decide_eq_true c1)
   refine⟨_,rfl,_,rfl,iteB (fun c2=>?_) (fun c2=>?_)⟩
   . have eb:b=false:=by cases b with
       | true=>cases c2
       | false=>rfl
     subst eb
     refine⟨_,rfl,_,rfl,cl,_,_,_,rfl,rfl,SqL.of hS.last,bh,.mk c.ce _ 1 _ rfl rfl (SqL.of a.hc) rfl ⟨_,_,rfl,rfl,c.ce,_,1,1,rfl,rfl,a.hc,rfl,?_⟩⟩
     refine q _ _ _ (hS.putK (k':=c.k+1)) (by unfold goP;rw[if_neg Af,if_neg (by rw[ew];exact nwi)]) (fun d o z n1 n2=>?_) fun d hd=>?_
     . rw[ah (fun y=>n2 (by rw[y];exact Aj))];exact z
     . rcases Al.mp hd with rfl|hd
       . exact .inl Aj
       . exact .inl (Ao _ (Cj hd))
   . have eb:b=true:=by cases b with
       | true=>rfl
       | false=>cases c2
     subst eb
     subst ew
     refine ak (a:=tAsg _ _) fun D1 hD1 _ _=>?_
     refine⟨_,rfl,t,_,0,_,rfl,rfl,SqT.of t0,at0,rfl,_,rfl,?_⟩
     refine (if_neg (by rw[ifF nwi];exact Af)).mpr ?_
     refine⟨_,rfl,?_⟩
     refine hD1 [some (.ref cl),some (.ref t),some (.bl true),some (.int ((0:Nat):Int)),none] _ ?_
     clear hD1
     refine ak (a:=tAsg _ _) fun D2 hD2 _ _=>?_
     refine⟨_,rfl,_,rfl,_,_,rfl,rfl,(show 2<=sizeLine by decide),fun u hu=>?_⟩
     have s1:=ad hu (.lst [V.int 3,V.int (2+((0:Nat):Int))])
     have k1:(upd H u (.lst [V.int 3,V.int (2+((0:Nat):Int))])) u=some (.lst [V.int 3,V.int (2+((0:Nat):Int))]):=aa
     refine⟨_,rfl,t,_,0,_,rfl,rfl,SqT.of (s1 _ _ t0),at0,rfl,_,rfl,?_⟩
     rw[ifF nwi]
     refine⟨u,_,0,_,rfl,rfl,SqL.of k1,rfl,t,_,3,_,rfl,rfl,SqT.of (s1 _ _ t0),rfl,?_⟩
     refine hD2 [some (.ref cl),some (.ref t),some (.bl true),some (.int ((0:Nat):Int)),some (.ref m3)] _ ?_
     exact push _ s1 0 m3 (by unfold goP;rw[if_pos rfl]) fun ce hd=>⟨ts,t,hl,hk,rfl,.inr ⟨ifT (x := "while") rfl,rfl,_,_,ht⟩⟩
 . have ew:wd ≠ "while" := fun z=>of_decide_eq_false c1 (by rw[z])
   obtain⟨rfl,m2,rfl⟩:=hw.resolve_left ew
   refine (if_neg Af).mpr ?_
   cases b with
   | true =>
     refine ak (a:=tAsg _ _) fun D1 hD1 _ _=>?_
     refine⟨_,rfl,t,_,0,_,rfl,rfl,SqT.of t0,at0,rfl,_,rfl,?_⟩
     refine (if_pos (ifT rfl)).mpr ?_
     refine⟨_,rfl,_,rfl,_,rfl,?_⟩
     refine hD1 [some (.ref cl),some (.ref t),some (.bl true),some (.int ((0:Nat):Int)),none] _ ?_
     clear hD1
     refine ak (a:=tAsg _ _) fun D2 hD2 _ _=>?_
     refine⟨_,rfl,_,rfl,_,_,rfl,rfl,(show 2<=sizeLine by decide),fun u hu=>?_⟩
     have s1:=ad hu (.lst [V.int 3,V.int (2+((0:Nat):Int))])
     have k1:(upd H u (.lst [V.int 3,V.int (2+((0:Nat):Int))])) u=some (.lst [V.int 3,V.int (2+((0:Nat):Int))]):=aa
     refine⟨_,rfl,t,_,0,_,rfl,rfl,SqT.of (s1 _ _ t0),at0,rfl,_,rfl,?_⟩
     rw[ifT rfl]
     refine⟨u,_,1,_,rfl,rfl,SqL.of k1,rfl,t,_,2,_,rfl,rfl,SqT.of (s1 _ _ t0),rfl,?_⟩
     refine hD2 [some (.ref cl),some (.ref t),some (.bl true),some (.int ((0:Nat):Int)),some (.ref m2)] _ ?_
     exact push _ s1 0 m2 (by unfold goP;rw[if_pos rfl]) fun ce hd=>⟨ts,t,hl,hk,rfl,.inl ⟨ifF (x := "if") (AO nwi),_,_,_,ht,.inl ⟨rfl,rfl⟩⟩⟩
   | false =>
     refine ak (a:=tAsg _ _) fun D1 hD1 _ _=>?_
     refine⟨_,rfl,t,_,0,_,rfl,rfl,SqT.of t0,at0,rfl,_,rfl,?_⟩
     refine (if_pos (ifT rfl)).mpr ?_
     refine⟨_,rfl,_,rfl,_,rfl,?_⟩
     refine hD1 [some (.ref cl),some (.ref t),some (.bl false),some (.int ((1:Nat):Int)),none] _ ?_
     clear hD1
     refine ak (a:=tAsg _ _) fun D2 hD2 _ _=>?_
     refine⟨_,rfl,_,rfl,_,_,rfl,rfl,(show 2<=sizeLine by decide),fun u hu=>?_⟩
     have s1:=ad hu (.lst [V.int 3,V.int (2+((1:Nat):Int))])
     have k1:(upd H u (.lst [V.int 3,V.int (2+((1:Nat):Int))])) u=some (.lst [V.int 3,V.int (2+((1:Nat):Int))]):=aa
     refine⟨_,rfl,t,_,0,_,rfl,rfl,SqT.of (s1 _ _ t0),at0,rfl,_,rfl,?_⟩
     rw[ifT rfl]
     refine⟨u,_,1,_,rfl,rfl,SqL.of k1,rfl,t,_,3,_,rfl,rfl,SqT.of (s1 _ _ t0),rfl,?_⟩
     refine hD2 [some (.ref cl),some (.ref t),some (.bl false),some (.int ((1:Nat):Int)),some (.ref m3)] _ ?_
     exact push _ s1 1 m3 (by unfold goP;rw[if_neg Af,if_pos rfl]) fun ce hd=>⟨ts,t,hl,hk,rfl,.inl ⟨ifF (x := "if") (AO nwi),_,_,_,ht,.inr ⟨rfl,rfl⟩⟩⟩
noncomputable abbrev xk:Stmt:=top 47
theorem sf {X:Cx}{K:Ab}(hK:X.K=K) {i j l m:Nat}{x y z v:Str}{px py pz pv pos:Pos}{k:Nat}(h1:QG X (.Name x px) (ba i)) (h2:QG X (.Name y py) (ba j)) (h3:QG X (.Name z pz) (ba l)) (h4:QG X (.Name v pv) (ba m)) (hc:X.calm=true:=by rfl)
   (a1:(assignEach [.Name x px,.Name y py,.Name z pz,.Name v pv] X.env).map (·.2)=assign (.Name x px) X.env::(assignEach [.Name y py,.Name z pz,.Name v pv] X.env).map (·.2):=by rfl) (a2:(assignEach [.Name y py,.Name z pz,.Name v pv] X.env).map (·.2)=assign (.Name y py) X.env::(assignEach [.Name z pz,.Name v pv] X.env).map (·.2):=by rfl) (a3:(assignEach [.Name z pz,.Name v pv] X.env).map (·.2)=assign (.Name z pz) X.env::(assignEach [.Name v pv] X.env).map (·.2):=by rfl) (a4:(assignEach [.Name v pv] X.env).map (·.2)=assign (.Name v pv) X.env::(assignEach [] X.env).map (·.2):=by rfl)
   (hn:(assignEach [.Name x px,.Name y py,.Name z pz,.Name v pv] X.env).length=4:=by rfl) (hst:(assignEach [.Name x px,.Name y py,.Name z pz,.Name v pv] X.env).findIdx? (·.1)=none:=by rfl):QG X (.Tuple [.Name x px,.Name y py,.Name z pz,.Name v pv] k pos) (gLst K 4 (kr (ba i) (kr (ba j) (kr (ba l) (kr (ba m) gNil))))):=by
 subst hK
 exact⟨a7g hc (gz h1.run (gz h2.run (gz h3.run (gz h4.run zq a4) a3) a2) a1) hn hst⟩
theorem a1n {r:Str}{i j:Int}:decide (V.bl (decide (V.int i=V.int j))=V.bl (decide (V.str r=V.str "is")))=c5 r i j:=by
 unfold c5
 have e1:decide (V.int i=V.int j)=decide (i=j):=by by_cases z:i=j<;>simp[z]
 have e2:decide (V.str r=V.str ("is" : Str))=decide (r = "is"):=by by_cases z:r = "is" <;> simp[z]
 rw[e1,e2]
 cases decide (i=j)<;>cases decide (r = "is")<;>simp
noncomputable def KpV (cl vd:Addr) (cs:List Tr) (H H':Hp):Prop:=∀b o,H b=some o->b≠cl->b∉cs.map (·.ce)->b≠vd->H' b=some o
inductive spStepL (K:Ab) (vs:List V) (H:Hp) (Q:VK) (E:XK):Prop
 | fin (X:Hp) (bd cl vd:Addr) (c:Tr) (r:List Tr) (ts:List Addr) (due:Pre×Nat) (e:Option Addr) (h0:vs=[.ref cl,.ref vd]) (hS:TSt K X H bd cl (c::r)) (hl:X c.l=some (.lst (ts.map V.ref))) (hk:ts.length<=c.k) (hs:Stands X bd c.pp c.k due e) (q:∀H' c' r',TSt K X H' bd cl (c'::r')->(c'.pp,c'.k)=due->KpT cl (c::r) H H'->(∀d∈c'::r',d.ce∈(c::r).map (·.ce)\/H d.ce=none)->Q .non H'):spStepL K vs H Q E
 | go (X:Hp) (bd cl vd t:Addr) (c:Tr) (r:List Tr) (ts:List Addr) (zs:List Str) (F F':Str->Int) (due:Pre×Nat) (h0:vs=[.ref cl,.ref vd]) (hS:TSt K X H bd cl (c::r)) (h20:c.pp.length<=20) (hl:X c.l=some (.lst (ts.map V.ref))) (hk:ts[c.k]? = some t) (hxv:X vd=none) (hv:H vd=some (.dK (vK zs F))) (hz:zs.length<=20) (hnz:¬ ("nil" : Str)∈zs) (hd:DoN K X bd zs F c.pp c.k t F' due) (q:∀H' c' r',TSt K X H' bd cl (c'::r')->(c'.pp,c'.k)=due->H' vd=some (.dK (vK zs F'))->KpV cl vd (c::r) H H'->(∀d∈c'::r',d.ce∈(c::r).map (·.ce)\/H d.ce=none)->Q .non H'):spStepL K vs H Q E
theorem scStepL:FnScope ["_law_todo","_law_values","_law_deeds","_law_k","_law_head","_law_again","_law_deed","_law_full","_law_alike"] ["_law_todo","_law_values"] (au xk):=⟨rfl,rfl,rfl,by decide +kernel,rfl,by decide +kernel,by decide +kernel⟩
theorem a50 (C:Con K mg w) (F:Fun K "_law_step" "_law_step" xk f fd) (GC:FnOk P w K mg base CX0 2 gC dC ["_law_todo","_law_deed","_law_holds_now"] (spChosen K)) (cC:Cal K mg "_law_chosen" gC dC ["_law_todo","_law_deed","_law_holds_now"]) (GS:FnOk P w K mg base CX0 1 gS dS ["_law_todo"] (spSettle K)) (cS:Cal K mg "_law_settle" gS dS ["_law_todo"]):FnOk P w K mg base CX0 3 f fd ["_law_todo","_law_values"] (spStepL K):=by
 refine F.okQ scStepL (fun vs H Q E h=>?_) (fun cdv A outer s0 H vs Q E hr h=>?_)
 . rcases h with⟨_,_,_,_,_,_,_,_,_,rfl,_⟩|⟨_,_,_,_,_,_,_,_,_,_,_,_,rfl,_⟩<;>rfl
 have nd:=scStepL.nd
 have hu1:=dn hr
 have hr1:=hr.mono (j:=1) (by omega)
 refine⟨_,ae (jt (af (ixK (K:=K) rfl) (qv 0) (c7 bu ab) (fun _ _=>rfl)) (sf (K:=K) rfl (bo (i:=2) nd rfl (Or.inl rfl)) (bo (i:=3) nd rfl (Or.inl rfl)) (bo (i:=4) nd rfl (Or.inl rfl)) (bo (i:=5) nd rfl (Or.inl rfl))))
   (ae (bg (aw ku (qv 3) (bf (lenK (K:=K) rfl) rfl C.len AM (aj (qv 2) a0)) (av _)) (ae (ar (i:=6) nd rfl (Or.inl rfl) (af (ixK (K:=K) rfl) (qv 2) (qv 3) (fun _ _=>rfl)))
   (ae (ar (i:=7) nd rfl (Or.inl rfl) (be ig rfl C.dict BE (aj (qv 1) a0)))
   (ae (di hu1 (qv 7) b6 ab)
   (ai (bg (aw bb (af (ixTK (K:=K) rfl) (qv 6) ab (fun _ _=>rfl)) b6 (av _)) (ae (di hu1 (qv 1) (af (ixTK (K:=K) rfl) (qv 6) ab (fun _ _=>rfl)) (fj hu1 (qv 7) (af (ixTK (K:=K) rfl) (qv 6) ab (fun _ _=>rfl)) (fun _ _=>rfl)))
   (ai (sr (af (ixK (K:=K) rfl) (qv 0) (c7 bu ab) (fun _ _=>rfl)) ab (l8 (K:=K) rfl) ab vz i5))) (ae (ar (i:=8) nd rfl (Or.inl rfl) (cz bb (fj hu1 (qv 7) (af (ixTK (K:=K) rfl) (af (ixTK (K:=K) rfl) (qv 6) ab (fun _ _=>rfl)) ab (fun _ _=>rfl)) (fun _ _=>rfl)) (fj hu1 (qv 7) (af (ixTK (K:=K) rfl) (af (ixTK (K:=K) rfl) (qv 6) ab (fun _ _=>rfl)) ab (fun _ _=>rfl)) (fun _ _=>rfl)) (av _)))
   (ai (bp (aq GC hr rfl cC.name cC.keep cC.bind .nil ap (aj (qv 0) (aj (qv 6) (bv (cz bb (qv 8) (cz bb (af (ixTK (K:=K) rfl) (af (ixTK (K:=K) rfl) (qv 6) ab (fun _ _=>rfl)) ab (fun _ _=>rfl)) b6 (av _)) (av _)) a0)))))))))))) bq)
   (ai (bp (aq GS hr1 rfl cS.name cS.keep cS.bind .nil ap (aj (qv 0) a0))))),?_⟩
 rcases h with⟨X,bd,cl,vd,c,r,ts,due,e,rfl,hS,hl,hk,hs,q⟩|⟨X,bd,cl,vd,t,c,r,ts,zs,F0,F',due,rfl,hS,h20,hl,hk,hxv,hv,hz,hnz,hd,q⟩
 . have a:=hS.at_ c Aj
   refine ak (a:=tAsg _ _) fun D1 hD1 _ _=>?_
   refine⟨_,rfl,_,rfl,cl,_,_,_,rfl,rfl,SqL.of hS.last,bh,c.ce,_,rfl,SqL.of a.hc,rfl,_,_,rfl,_,_,rfl,_,_,rfl,_,_,rfl,rfl,?_⟩
   refine hD1 [some (.ref cl),some (.ref vd),some (.ref c.l),some (.int (c.k:Int)),some (.ref c.hd),some (.bl c.ag),none,none,none] _ ?_
   clear hD1
   refine ak (a:=tIfS _ _ _) fun D2 hD2 _ _=>?_
   refine⟨_,rfl,_,rfl,c.l,_,rfl,.inl (SqL.of (hS.sX _ _ hl)),_,_,rfl,rfl,_,rfl,iteB (fun c1=>?_) (fun c1=>?_)⟩
   . have:=of_decide_eq_true c1
     rw[Ac] at this
     omega
   refine hD2 _ _ ?_
   exact⟨_,rfl,.mk X bd cl c r due e rfl hS hs fun H' c' r' S' e' kp inn=>q H' c' r' S' e' kp fun d hd=>.inl (inn d hd)⟩
 have a:=hS.at_ c Aj
 have hkl:=(Aq.mp hk).1
 refine ak (a:=tAsg _ _) fun D1 hD1 _ _=>?_
 refine⟨_,rfl,_,rfl,cl,_,_,_,rfl,rfl,SqL.of hS.last,bh,c.ce,_,rfl,SqL.of a.hc,rfl,_,_,rfl,_,_,rfl,_,_,rfl,_,_,rfl,rfl,?_⟩
 refine hD1 [some (.ref cl),some (.ref vd),some (.ref c.l),some (.int (c.k:Int)),some (.ref c.hd),some (.bl c.ag),none,none,none] _ ?_
 clear hD1
 refine ak (a:=tIfS _ _ _) fun D2 hD2 _ _=>?_
 refine⟨_,rfl,_,rfl,c.l,_,rfl,.inl (SqL.of (hS.sX _ _ hl)),_,_,rfl,rfl,_,rfl,iteB (fun c1=>?_) (fun c1=>absurd (by rw[Ac];omega) (of_decide_eq_false c1))⟩
 have atd:atI (ts.map V.ref) (c.k:Int)=some (.ref t):=c8 (by rw[Ak,hk];rfl)
 refine ak (a:=tAsg _ _) fun D3 hD3 _ _=>?_
 refine⟨_,rfl,_,rfl,c.l,_,_,.ref t,rfl,rfl,SqL.of (hS.sX _ _ hl),atd,?_⟩
 refine hD3 [some (.ref cl),some (.ref vd),some (.ref c.l),some (.int (c.k:Int)),some (.ref c.hd),some (.bl c.ag),some (.ref t),none,none] _ ?_
 clear hD3
 refine ak (a:=tAsg _ _) fun D4 hD4 _ _=>?_
 refine⟨_,rfl,vd,_,rfl,hv,fun fu hfu=>?_⟩
 have s1:=ad hfu (.dK (vK zs F0))
 have k1:(upd H fu (.dK (vK zs F0))) fu=some (.dK (vK zs F0)):=aa
 generalize upd H fu (.dK (vK zs F0))=H1 at s1 k1 |-
 refine hD4 [some (.ref cl),some (.ref vd),some (.ref c.l),some (.int (c.k:Int)),some (.ref c.hd),some (.bl c.ag),some (.ref t),some (.ref fu),none] _ ?_
 clear hD4
 refine ak (a:=ju _ _ _) fun D5 hD5 _ _=>?_
 have lz:(vK zs F0).length<=20:=by unfold vK;rw[Ac];exact hz
 refine⟨_,rfl,fu,_,rfl,DPut.k (k:=Sum.inr "nil") k1 (cx (by omega)),?_⟩
 rw[a2g hnz]
 have e2:Same H (upd H1 fu (.dK (vK (zs++[("nil" : Str)]) (upF F0 "nil" 0)))):=fun b o z=>by rw[ah (ao z hfu)];exact s1 _ _ z
 have k2:(upd H1 fu (.dK (vK (zs++[("nil" : Str)]) (upF F0 "nil" 0)))) fu=some (.dK (vK (zs++[("nil" : Str)]) (nilF F0))):=aa
 generalize upd H1 fu (.dK (vK (zs++[("nil" : Str)]) (upF F0 "nil" 0)))=H2 at e2 k2 |-
 refine hD5 [some (.ref cl),some (.ref vd),some (.ref c.l),some (.int (c.k:Int)),some (.ref c.hd),some (.bl c.ag),some (.ref t),some (.ref fu),none] _ ?_
 clear hD5
 have S2:=hS.same e2
 have hv2:=e2 _ _ hv
 have gd:∀{y:Str},y∈zs++[("nil" : Str)]->DGet H2 fu (.str y) (some (.int (nilF F0 y))):=fun {y} hy=>by
   have g:=DGet.k (k:=Sum.inr y) k2
   rw[mn hy] at g
   exact g
 have tail:∀(G:Hp) (c2:Tr) (r2:List Tr) (e:Option Addr) (z:Option V),TSt K X G bd cl (c2::r2)->Stands X bd c2.pp c2.k due e->G vd=some (.dK (vK zs F'))->KpV cl vd (c::r) H G->(∀d∈c2::r2,d.ce∈(c::r).map (·.ce)\/H d.ce=none)->D2.nx [some (.ref cl),some (.ref vd),some (.ref c.l),some (.int (c.k:Int)),some (.ref c.hd),some (.bl c.ag),some (.ref t),some (.ref fu),z] G:=fun G c2 r2 e z SG st hvG kp inn=>by
   refine hD2 _ _ ?_
   have nvc:vd≠cl:=fun y=>by rw[y,SG.hcl] at hvG;cases hvG
   refine⟨_,rfl,.mk X bd cl c2 r2 due e rfl SG st fun H' c' r' S' e' kp' inn'=>q H' c' r' S' e' (kp' vd _ hvG nvc fun y=>?_) (fun b o z n1 n2 n3=>?_) fun d hd'=>?_⟩
   . obtain⟨d,hd',ed⟩:=AF.mp y
     have:=(SG.at_ d hd').hc
     rw[show d.ce=vd from ed,hvG] at this;cases this
   . refine kp' b o (kp b o z n1 n2 n3) n1 fun y=>?_
     obtain⟨d,hd',ed⟩:=AF.mp y
     rcases inn d hd' with w|w
     . exact n2 (by rw[<- show d.ce=b from ed];exact w)
     . rw[show d.ce=b from ed,z] at w;cases w
   . obtain⟨d2,hd2,ed⟩:=AF.mp (inn' d hd')
     rw[<- show d2.ce=d.ce from ed];exact inn d2 hd2
 cases hd with
 | set x y due e ht hx hy hs =>
   have t2:=S2.sX _ _ ht
   refine⟨_,rfl,t,_,0,_,rfl,rfl,SqT.of t2,at0,rfl,_,rfl,iteB (fun _=>?_) (fun c=>absurd c (by simp))⟩
   refine ak (a:=ju _ _ _) fun D6 hD6 _ _=>?_
   refine⟨_,rfl,_,rfl,t,_,2,_,rfl,rfl,SqT.of t2,rfl,fu,_,rfl,gd hy,?_⟩
   refine⟨_,rfl,_,rfl,t,_,1,_,rfl,rfl,SqT.of t2,rfl,vd,_,rfl,DPut.k (k:=Sum.inr x) hv2 (cx (by omega)),?_⟩
   rw[a3g hx]
   have S3:TSt K X (upd H2 vd (.dK (vK zs (upF F0 x (nilF F0 y))))) bd cl (c::r):=by
     have nl:∀{b:Addr} {l:List V},H2 b=some (.lst l)->b≠vd:=fun hb z=>by rw[z,hv2] at hb;cases hb
     have sq:∀{b:Addr} {us:List V},SqT K H2 b us->SqT K (upd H2 vd (.dK (vK zs (upF F0 x (nilF F0 y))))) b us:=fun {b us} h=>by
       rcases h with (z|⟨o,z⟩)|z
       . exact .inl (.inl (by rw[ah (fun y=>by rw[y,hv2] at z;cases z)];exact z))
       . exact .inl (.inr ⟨o,by rw[ah (fun y=>by rw[y,hv2] at z;cases z)];exact z⟩)
       . exact .inr z
     exact⟨fun b o z=>by rw[ah (ao z hxv)];exact S2.sX _ _ z,S2.xl,by rw[ah (nl S2.hcl)];exact S2.hcl,fun d hd=>⟨(S2.at_ d hd).xc,by rw[ah (nl (S2.at_ d hd).hc)];exact (S2.at_ d hd).hc,sq (S2.at_ d hd).hh⟩,S2.ne,S2.nc,S2.td⟩
   have hv3:(upd H2 vd (.dK (vK zs (upF F0 x (nilF F0 y))))) vd=some (.dK (vK zs (upF F0 x (nilF F0 y)))):=aa
   have kp3:KpV cl vd (c::r) H (upd H2 vd (.dK (vK zs (upF F0 x (nilF F0 y))))):=fun b o z n1 n2 n3=>by rw[ah n3];exact e2 _ _ z
   generalize upd H2 vd (.dK (vK zs (upF F0 x (nilF F0 y))))=H3 at S3 hv3 kp3 |-
   refine hD6 [some (.ref cl),some (.ref vd),some (.ref c.l),some (.int (c.k:Int)),some (.ref c.hd),some (.bl c.ag),some (.ref t),some (.ref fu),none] _ ?_
   clear hD6
   have a3:=S3.at_ c Aj
   refine⟨_,rfl,_,rfl,cl,_,_,_,rfl,rfl,SqL.of S3.last,bh,.mk c.ce _ 1 _ rfl rfl (SqL.of a3.hc) rfl ⟨_,_,rfl,rfl,c.ce,_,1,1,rfl,rfl,a3.hc,rfl,?_⟩⟩
   refine tail _ { c with k:=c.k+1 } r e none (S3.putK (k':=c.k+1)) hs ?_ (fun b o z n1 n2 n3=>?_) fun d hd=>?_
   . rw[ah (fun z=>by have:=a3.hc;rw[<- z,hv3] at this;cases this)];exact hv3
   . rw[ah (fun z=>n2 (by rw[z];exact Aj))];exact kp3 b o z n1 n2 n3
   . rcases Al.mp hd with rfl|hd
     . exact .inl Aj
     . exact .inl (Ao _ (Cj hd))
 | branch wd r' x y cc u2 u3 due e hw ht hc hx hy hs =>
   have t2:=S2.sX _ _ ht
   refine⟨_,rfl,t,_,0,_,rfl,rfl,SqT.of t2,at0,rfl,_,rfl,iteB (fun c=>absurd (V.str.inj (of_decide_eq_true c)) (by rcases hw with rfl|⟨rfl,_⟩<;>decide +kernel)) (fun _=>?_)⟩
   have c2:=S2.sX _ _ hc
   refine ak (a:=tAsg _ _) fun D6 hD6 _ _=>?_
   refine⟨_,rfl,_,rfl,t,_,1,_,rfl,rfl,SqT.of t2,rfl,cc,_,1,_,rfl,rfl,SqT.of c2,rfl,fu,_,rfl,gd hx,?_⟩
   refine⟨_,rfl,_,rfl,t,_,1,_,rfl,rfl,SqT.of t2,rfl,cc,_,2,_,rfl,rfl,SqT.of c2,rfl,fu,_,rfl,gd hy,rfl,?_⟩
   refine hD6 [some (.ref cl),some (.ref vd),some (.ref c.l),some (.int (c.k:Int)),some (.ref c.hd),some (.bl c.ag),some (.ref t),some (.ref fu),some (.bl (decide (V.int (nilF F0 x)=V.int (nilF F0 y))))] _ ?_
   clear hD6
   refine⟨_,rfl,_,rfl,_,rfl,_,rfl,t,_,1,_,rfl,rfl,SqT.of t2,rfl,cc,_,0,_,rfl,rfl,SqT.of c2,at0,rfl,rfl,?_⟩
   rw[a1n]
   refine .mk X bd cl t c r ts wd (.ref cc) u2 u3 (c5 r' (nilF F0 x) (nilF F0 y)) rfl S2 h20 hl hk ht hw fun H3 c3 r3 S3 e3 kp3 inn3=>?_
   have nvc:vd≠cl:=fun y=>by rw[y,S2.hcl] at hv2;cases hv2
   refine tail H3 c3 r3 e _ S3 ?_ (kp3 vd _ hv2 nvc fun y=>?_) (fun b o z n1 n2 n3=>kp3 b o (e2 _ _ z) n1 n2) fun d hd=>?_
   . have e4:=congrArg Prod.fst e3
     have e5:=congrArg IP e3
     dsimp only at e4 e5
     rw[e4,e5];exact hs
   . obtain⟨d,hd',ed⟩:=AF.mp y
     have:=(S2.at_ d hd').hc
     rw[show d.ce=vd from ed,hv2] at this;cases this
   . exact (inn3 d hd).imp id fun z=>e2.free z
end K51
namespace L2
open PySem PySem.Spec PyProof.Rows
section
variable {X:Cx}
end
section
variable {X:Cx}
theorem ut:cy X (.builtin "isinstance") (fun xs H Q=>∃a kvs,xs=[.ref a,.ty "dict"]/\H a=some (.dK kvs)/\Q (.bl true) H):=by
 intro pins s σ H xs us Q I r h
 obtain⟨a,kvs,rfl,ha,q⟩:=h
 cases r with
 | cons r1 r =>
   cases r with
   | cons r2 r =>
     cases r
     cases r1
     cases r2
     obtain⟨z,hd,vs,rel,dd⟩:=uw I.hok ha
     obtain⟨o,e,hc⟩:=dd.typeIs
     exact IsiPair.dict_dict e hc ⟨.bl true,H,I,rfl,q⟩
end
end L2
namespace K51
open PySem PySem.Spec L2 Mir
variable {P:Program}{w:World}{K:Ab}{mg:Str->Option Value}{base:Heap}{f g gS gN gA gW gI gL gF gO gT gB C fI CM CF fJ gD gR gU gH gM gE gC gK gP gX:Addr}{fd gd dS dN dA dW dI dL dF dO dT dB dD dR dU dH dM dE dC dK dP dX:FuncData}
noncomputable abbrev nr:Stmt:=top 46
theorem zp {f:Str->Int}{k:Key}{v:V}:∀{xs:List Str},valV (vK xs f) k=some v->∃y∈xs,k=Sum.inr y/\v=.int (f y)
 | [],h=>by cases h
 | y::xs,h=>by
   by_cases e:(Sum.inr y:Key)=k
   . rw[show valV (vK (y::xs) f) k=some (.int (f y)) from iw e] at h
     exact⟨y,Aj,e.symm,(Av h).symm⟩
   . have h':valV (vK xs f) k=some v:=by
       unfold valV vK at h |-
       rw[AA,BC,decide_eq_false e] at h
       exact h
     obtain⟨z,hz,e1,e2⟩:=zp h'
     exact⟨z,Ao _ hz,e1,e2⟩
theorem a8n (xs:List Str) (f:Str->Int):(vK xs f).map (fun kv=>kV kv.1)=xs.map V.str:=by unfold vK;rw[Cv];rfl
theorem sm {K:Ab}{H:Hp}:∀ns:List Int,DpAll K H (ns.map V.int) (ns.map PyData.int)
 | []=>.nil
 | n::ns=>.cons (.int n) (sm ns)
theorem xo:∀ns:List Int,DZ (ns.map PyData.int)=true/\EB (ns.map PyData.int)<=1
 | []=>by simp[DZ,EB]
 | n::ns=>by
   obtain⟨h1,h2⟩:=xo ns
   simp[DZ,EO,EB,HI,h1]
   omega
inductive spStands (K:Ab) (CM CF:Addr) (vs:List V) (H:Hp) (Q:VK) (E:XK):Prop
 | mk (X X2:Hp) (m dm pd fl cd p pr nd bd l bd2 cl vd:Addr) (fm:List (Str×V)) (g:Int) (ys zs:List Str) (F:Str->Int) (pp:Pre) (k j:Nat) (ts ts2:List Addr) (nm:Str) (us:List V) (c:Tr) (r:List Tr) (h0:vs=[.ref m,.str nm,.ref cl,.ref vd]) (h1:M1 K CM CF X H m dm pd fl cd p pr nd bd fm g ys F pp k j) (hj:j<=40) (hl:LFrom X bd pp l) (hts:X l=some (.lst (ts.map V.ref))) (hnm:X pr=some (.tup (.str nm::us))) (hS:TSt K X2 H bd2 cl (c::r)) (ec:(c.pp,c.k)=(pp,k)) (h2:X2 c.l=some (.lst (ts2.map V.ref))) (hlen:ts2.length=ts.length) (hk:k<=ts.length) (hend:pp≠[]->k<ts.length)
     (hv:H vd=some (.dK (vK zs F))) (e5:∀y,y∈ys↔y∈zs) (e6:ys.Nodup) (e7:zs.Nodup) (okn:(PyData.str nm).canLay0=true) (q:∀H',Same H H'->Q (.bl true) H'):spStands K CM CF vs H Q E
theorem scStands:FnScope ["_law_machine","_law_name","_law_todo","_law_values","_law_word","_law_where","_law_found","_law_thing"] ["_law_machine","_law_name","_law_todo","_law_values"] (au nr):=⟨rfl,rfl,rfl,by decide +kernel,rfl,by decide +kernel,by decide +kernel⟩
theorem a3z (C:Con K mg w) (T:TxM K mg CM fI) (U:TxF K mg CF fJ) (F:Fun K "_law_stands" "_law_stands" nr f fd) (GW:FnOk P w K mg base CX0 5 gW dW ["self"] (spWord K CM CF)) (cW:MCal K CM "word" gW dW ["self"]) (GX:FnOk P w K mg base CX0 6 gX dX ["self"] (spWhere K CM CF)) (cX:MCal K CM "where" gX dX ["self"]) (GH:FnOk P w K mg base CX0 1 gH dH ["self"] (a3u CM CF)) (cH:MCal K CM "held" gH dH ["self"]) (GP:FnOk P w K mg base CX0 1 gP dP ["self"] (a3x CM)) (cP:MCal K CM "heap" gP dP ["self"]) (GL:FnOk P w K mg base CX0 1 gL dL ["_law_todo"] (spPlace K)) (cL:Cal K mg "_law_place" gL dL ["_law_todo"]):FnOk P w K mg base CX0 7 f fd ["_law_machine","_law_name","_law_todo","_law_values"] (spStands K CM CF):=by
 refine F.okQ scStands (fun vs H Q E h=>?_) (fun cdv A outer s0 H vs Q E hr h=>?_)
 . obtain⟨_,_,_,_,_,_,_,_,_,_,_,_,_,_,_,_,_,_,_,_,_,_,_,_,_,_,_,_,_,rfl,_⟩:=h;rfl
 obtain⟨X,X2,m,dm,pd,fl,cd,p,pr,nd',bd,l,bd2,cl,vd,fm,g,ys,zs,F0,pp,k,j,ts,ts2,nm,us,c,r,rfl,h1,hj,hl,hts,hnm,hS,ec,h2,hlen,hk,hend,hv,e5,e6,e7,okn,q⟩:=h
 have nd:=scStands.nd
 have hu1:=dn hr
 have hr5:=hr.mono (j:=5) (by omega)
 have hr1:=hr.mono (j:=1) (by omega)
 have hu:(A.deeper (PyProof.Rows.envOfC "_law_stands" (au nr) s0.heap.objs.size f cdv)).units+32<cLine:=Bs (Ho (by decide:32<=64) _) hr.units
 refine⟨_,ae (ar (i:=4) nd rfl (Or.inl rfl) b6)
   (ae (ar (i:=5) nd rfl (Or.inl rfl) (cf (aj (qv 1) (bi (aq GL hr1 rfl cL.name cL.keep cL.bind .nil ap (aj (qv 2) a0)) a0))))
   (ae (bg (QW.qt (gu (aw bb (bf (lenK (K:=K) rfl) rfl C.len AM (aj (qv 2) a0)) ab (av _)) (g8 (aw bb (af (ixK (K:=K) rfl) (af (ixK (K:=K) rfl) (qv 2) ab (fun _ _=>rfl)) ab (fun _ _=>rfl)) (bf (lenK (K:=K) rfl) rfl C.len AM (az (af (ixK (K:=K) rfl) (af (ixK (K:=K) rfl) (qv 2) ab (fun _ _=>rfl)) ab (fun _ _=>rfl)) a0)) (av _))))) (ae (ar (i:=4) nd rfl (Or.inl rfl) b6)
   (ai (ar (i:=5) nd rfl (Or.inl rfl) gw))) bq)
   (ae (bg (QW.qt (kg (aw qz (dt (qv 0) T.cl cW.meth GW hr5 cW.bind .nil ap) (qv 4) (av _)) (kg (aw (aa2 hu) (dt (qv 0) T.cl cX.meth GX hr cX.bind .nil ap) (qv 5) (av _)) (lj (aw (zc (K:=K) rfl hu) (dt (qv 0) T.cl cP.meth GP hr1 cP.bind .nil ap) my (av _)))))) (ai (b5 ge)) bq)
   (ae (ar (i:=6) nd rfl (Or.inl rfl) (dt (qv 0) T.cl cH.meth GH hr1 cH.bind .nil ap))
   (ae (bg (QW.qt (kg (mh (ft (bf ut rfl C.isi CC (aj (qv 6) (aj ⟨gty C.dict BE⟩ a0))))) (lj (aw (zc (K:=K) rfl hu) (qv 6) (qv 3) (av _))))) (ai (b5 ge)) bq)
   (ae (a8o (dv AH rfl (a6l (qv 6)) (bo (i:=7) nd rfl (Or.inl rfl)) (ai (bg (QW.qt (kg (mh (ft (bf xr rfl C.isi CC (az (fj hu1 (qv 6) (qv 7) (fun _ _=>rfl)) (aj ⟨gty C.int BN⟩ a0))))) (lj (ft (bf yo rfl C.isi CC (az (fj hu1 (qv 6) (qv 7) (fun _ _=>rfl)) (aj ⟨gty C.bool PyProof.Rows.boot_bool⟩ a0))))))) (ai (b5 ge)) bq))))
   (ai (b5 ge)))))))),?_⟩
 obtain⟨v0,v1,v2,v3,v4,hpr⟩:=h1.hpr
 have ec1:c.pp=pp:=congrArg Prod.fst ec
 have ec2:c.k=k:=congrArg IP ec
 have a:=hS.at_ c Aj
 have mW:=h1.mf.meth "word" (by decide +kernel)
 have mX:=h1.mf.meth "where" (by decide +kernel)
 have mH:=h1.mf.meth "held" (by decide +kernel)
 have mP:=h1.mf.meth "heap" (by decide +kernel)
 have l100:pp.length<=100:=by have:=h1.lp;omega
 generalize hwd:(if k<ts.length then ("on" : Str) else "end")=wd
 generalize hdW:(if k<ts.length then PyData.tuple [.str nm,.tuple ((flat pp++[(k:Int)]).map PyData.int)] else .none)=dW
 have callW:∀{G:Hp} {Q':VK},Same H G->(∀G',Same G G'->Q' (.str wd) G')->spWord K CM CF [.ref m] G Q' E0:=fun {G Q'} e q'=>by
   subst hwd
   have SG:=h1.same e
   obtain⟨pt,ma,hpt⟩:=SG.ma hj
   exact .fine m pd fl cd p pr pt nd' bd l [] g "" v0 v1 v2 v3 v4 pp k ts rfl ma (SG.sX _ _ hpr) hpt (hl.same SG.sX) l100 (SG.sX _ _ hts) q'
 have callX:∀{G:Hp} {Q':VK},Same H G->(∀v G',Same G G'->Dp K G' v dW->Q' v G')->spWhere K CM CF [.ref m] G Q' E0:=fun {G Q'} e q'=>by
   subst hdW
   have SG:=h1.same e
   refine .mk X m dm pd fl cd p pr nd' bd l fm g ys F0 pp k j ts nm us rfl SG hj hl hts hnm (fun z G' e'=>q' _ _ e' (by rw[if_neg (by omega)];exact .non)) fun z r pt G' e' hr hpt=>q' _ _ e' ?_
   rw[if_pos z]
   exact .tup (SqT.of hr) (.cons (.str nm) (.cons (.tup hpt (sm _)) .nil))
 have okW:EqOk dW:=by
   subst hdW
   split
   . obtain⟨i1,i2⟩:=xo (flat pp++[(k:Int)])
     refine⟨by simp only[EO] at okn;simp only[EO,DZ,okn,i1];rfl,?_⟩
     simp only[HI,EB]
     omega
   . exact⟨rfl,by simp[HI]⟩
 refine ak (a:=tAsg _ _) fun D1 hD1 _ _=>?_
 refine hD1 [some (.ref m),some (.str nm),some (.ref cl),some (.ref vd),some (.str "on"),none,none,none] _ ?_
 clear hD1
 refine ak (a:=tAsg _ _) fun D2 hD2 _ _=>?_
 refine⟨_,rfl,_,rfl,.mk X2 bd2 cl c r rfl hS (by rw[ec1];exact h1.lp) fun u1 G1 s1 hu1'=>⟨(show 2<=sizeLine by decide),fun u2 hu2'=>?_⟩⟩
 have s2:=ad hu2' (.tup [.str nm,.ref u1])
 have k2:(upd G1 u2 (.tup [.str nm,.ref u1])) u2=some (.tup [.str nm,.ref u1]):=aa
 have k1':=s2.seqT hu1'
 have e12:=s1.trans s2
 generalize upd G1 u2 (.tup [.str nm,.ref u1])=G at e12 k1' k2 |-
 clear s1 s2 hu1' hu2'
 refine hD2 [some (.ref m),some (.str nm),some (.ref cl),some (.ref vd),some (.str "on"),some (.ref u2),none,none] _ ?_
 clear hD2
 rw[ec1,ec2] at k1'
 have dp2:∀G',Same G G'->Dp K G' (.ref u2) (.tuple [.str nm,.tuple ((flat pp++[(k:Int)]).map PyData.int)]):=fun G' e'=>.tup (SqT.of (e' _ _ k2)) (.cons (.str nm) (.cons (.tup (e'.seqT k1') (sm _)) .nil))
 refine ak (a:=tIfS _ _ _) fun D4 hD4 _ _=>?_
 have go:∀v8:V,(∀G',Same G G'->Dp K G' v8 dW)->D4.nx [some (.ref m),some (.str nm),some (.ref cl),some (.ref vd),some (.str wd),some v8,none,none] G:=fun v8 hv8=>by
   refine hD4 _ _ ?_
   clear hD4
   refine ak (a:=tIfS _ _ _) fun D5 hD5 _ _=>?_
   have nt:¬ (!decide (V.str wd=V.str wd))=true:=by rw[decide_eq_true rfl];decide
   refine⟨_,rfl,m,dm,fm,rfl,e12 _ _ (h1.sX _ _ h1.hm),mW,callW e12 fun G5 s5=>?_⟩
   refine⟨_,rfl,rfl,_,rfl,iteB (fun c=>absurd c nt) (fun _=>?_)⟩
   have e15:=e12.trans s5
   refine⟨_,rfl,m,dm,fm,rfl,e15 _ _ (h1.sX _ _ h1.hm),mX,callX e15 fun v G6 s6 hv'=>?_⟩
   have e16:=e15.trans s6
   refine⟨_,rfl,dW,dW,hv',hv8 _ (s5.trans s6),okW,okW,?_⟩
   rw[ID _ okW.1]
   refine⟨_,rfl,iteB (fun c=>absurd c Af) (fun _=>?_)⟩
   refine⟨_,rfl,m,dm,fm,rfl,e16 _ _ (h1.sX _ _ h1.hm),mP,m,dm,pd,fl,cd,fm,g,false,_,rfl,e16 _ _ (h1.sX _ _ h1.hm),h1.mf,e16 _ _ (h1.sX _ _ h1.hcd),fun a2 ha2=>?_⟩
   have s9:=ad ha2 (.dK [])
   have k9:(upd G6 a2 (.dK [])) a2=some (.dK []):=aa
   generalize upd G6 a2 (.dK [])=G9 at s9 k9 |-
   intro a3 ha3
   have s10:=ad ha3 (.dK [])
   have k10:(upd G9 a3 (.dK [])) a3=some (.dK []):=aa
   have k9':=s10 _ _ k9
   generalize upd G9 a3 (.dK [])=G10 at s10 k10 k9' |-
   have e20:=(e16.trans s9).trans s10
   refine .mk a2 a3 [] [] rfl rfl k9' k10 rfl (fun k v hv=>by cases hv) ⟨_,rfl,iteB (fun c=>absurd c Af) (fun _=>?_)⟩
   refine hD5 _ _ ?_
   clear hD5
   have SG:=h1.same e20
   obtain⟨pt,ma,_⟩:=SG.ma hj
   refine ak (a:=tAsg _ _) fun D6 hD6 _ _=>?_
   refine⟨_,rfl,m,dm,fm,rfl,SG.sX _ _ h1.hm,mH,m,pd,fl,cd,p,pr,pt,nd',_,g,false,"",_,rfl,ma,SG.hnd,fun fd0 hfd0=>?_⟩
   have s4:=ad hfd0 (.dK (vK ys F0))
   have k4:(upd G10 fd0 (.dK (vK ys F0))) fd0=some (.dK (vK ys F0)):=aa
   generalize upd G10 fd0 (.dK (vK ys F0))=G4 at s4 k4 |-
   have e24:=e20.trans s4
   refine hD6 [some (.ref m),some (.str nm),some (.ref cl),some (.ref vd),some (.str wd),some v8,some (.ref fd0),none] _ ?_
   clear hD6
   refine ak (a:=tIfS _ _ _) fun D7 hD7 _ _=>?_
   refine⟨_,rfl,fd0,_,rfl,k4,_,rfl,iteB (fun c=>absurd c Af) (fun _=>?_)⟩
   have hle:ys.length=zs.length:=Nat.le_antisymm (Bf e6 fun y hy=>(e5 y).mp hy) (Bf e7 fun y hy=>(e5 y).mpr hy)
   refine⟨_,rfl,_,rfl,.mk fd0 vd _ _ rfl rfl k4 (e24 _ _ hv) (by unfold vK;rw[Ac,Ac];exact hle) (fun k v hv=>?_) ⟨_,rfl,iteB (fun c=>absurd c Af) (fun _=>?_)⟩⟩
   . obtain⟨y,hy,rfl,rfl⟩:=zp hv
     exact⟨_,mn ((e5 y).mp hy),.inl ⟨rfl,rfl⟩⟩
   refine hD7 _ _ ?_
   clear hD7
   refine ak (a:=a3j _ _) fun D8 hD8 _ _=>?_
   refine⟨_,rfl,fd0,_,rfl,k4,fun od nf=>?_⟩
   refine a4e (fun i σ G'=>∃z9:Option V,σ=[some (.ref m),some (.str nm),some (.ref cl),some (.ref vd),some (.str wd),some v8,some (.ref fd0),z9]/\G'=upd G4 fd0 (.frz od (.dK (vK ys F0)))) ⟨none,rfl,rfl⟩ ?_ ?_ ?_
   . rintro i σ G' hi ⟨z9,rfl,rfl⟩
     exact aa
   . rintro i x σ G' hx ⟨z9,rfl,rfl⟩
     rw[a8n,Ak] at hx
     obtain⟨y,hy,rfl⟩:=Be.mp hx
     have hmy:=AQ hy
     have hg:DGet (upd G4 fd0 (.frz od (.dK (vK ys F0)))) fd0 (.str y) (some (.int (F0 y))):=.inl ⟨_,Sum.inr y,.inr ⟨_,aa⟩,rfl,(mn hmy).symm⟩
     refine⟨_,rfl,_,rfl,fd0,_,rfl,hg,_,rfl,_,rfl,iteB (fun c=>absurd c Af) (fun _=>?_)⟩
     exact⟨_,rfl,_,rfl,fd0,_,rfl,hg,_,rfl,_,rfl,iteB (fun c=>absurd c Af) (fun _=>⟨_,rfl,rfl⟩)⟩
   rintro σ G' ⟨z9,rfl,rfl⟩
   refine⟨fd0,od,_,aa,nf,hD8 _ _ ?_⟩
   have e17:Same H (upd (upd G4 fd0 (.frz od (.dK (vK ys F0)))) fd0 (.dK (vK ys F0))):=fun b u hb=>by
     by_cases z:b=fd0
     . rw[z,aa]
       have y:=e24 _ _ hb
       rw[z,k4] at y;exact y
     . rw[ah z,ah z];exact e24 _ _ hb
   exact q _ e17
 have hcl:=(hS.same e12).last
 have lenr:((r.map fun c=>V.ref c.ce).reverse++[V.ref c.ce]).length=r.length+1:=by rw[Ag,C0,Ac];rfl
 have hrl:=hS.td.len c r rfl
 have ac:=(hS.same e12).at_ c Aj
 subst hwd hdW
 by_cases z:k<ts.length
 . have g1:=go (.ref u2) (fun G' e'=>by rw[if_pos z];exact dp2 G' e')
   rw[if_pos z] at g1
   refine⟨_,rfl,cl,_,rfl,.inl (SqL.of hcl),rfl,_,rfl,iteB (fun c1=>?_) (fun _=>g1)⟩
   have e0:r=[]:=by
     have:=V.int.inj (of_decide_eq_true c1)
     rw[lenr] at this
     exact AY (by omega)
   subst e0
   refine⟨_,rfl,cl,_,0,.ref c.ce,rfl,rfl,SqL.of hcl,at0,c.ce,_,1,_,rfl,rfl,SqL.of ac.hc,rfl,_,rfl,cl,_,0,.ref c.ce,rfl,rfl,SqL.of hcl,at0,c.ce,_,0,_,rfl,rfl,SqL.of ac.hc,at0,c.l,_,rfl,.inl (SqL.of (e12 _ _ (hS.sX _ _ h2))),rfl,_,rfl,iteB (fun c2=>?_) (fun _=>g1)⟩
   have:=V.int.inj (of_decide_eq_true c2)
   rw[Ac] at this
   omega
 . have g1:=go .non (fun G' e'=>by rw[if_neg z];exact .non)
   rw[if_neg z] at g1
   have e0:r=[]:=by
     have:pp=[]:=Classical.byContradiction fun y=>z (hend y)
     rw[ec1,this] at hrl
     exact AY hrl
   subst e0
   refine⟨_,rfl,cl,_,rfl,.inl (SqL.of hcl),rfl,_,rfl,iteB (fun c1=>?_) (fun c1=>absurd rfl (of_decide_eq_false c1))⟩
   refine⟨_,rfl,cl,_,0,.ref c.ce,rfl,rfl,SqL.of hcl,at0,c.ce,_,1,_,rfl,rfl,SqL.of ac.hc,rfl,_,rfl,cl,_,0,.ref c.ce,rfl,rfl,SqL.of hcl,at0,c.ce,_,0,_,rfl,rfl,SqL.of ac.hc,at0,c.l,_,rfl,.inl (SqL.of (e12 _ _ (hS.sX _ _ h2))),rfl,_,rfl,iteB (fun c2=>?_) (fun c2=>absurd (show V.int (c.k:Int)=V.int ((ts2.map V.ref).length:Nat) by rw[Ac,show c.k=ts2.length by omega]) (of_decide_eq_false c2))⟩
   exact g1
noncomputable abbrev tw:Stmt:=top 40
inductive spOpened (K:Ab) (vs:List V) (H:Hp) (Q:VK) (E:XK):Prop
 | mk (bd pt l:Addr) (pp:Pre) (k:Nat) (h0:vs=[.ref bd,.ref pt]) (h1:SqT K H pt ((flat pp++[(k:Int)]).map V.int)) (h2:LFrom H bd pp l) (h3:pp.length<=20) (q:∀cl c r H',TSt K H H' bd cl (c::r)->(c.pp,c.k)=(pp,k)->Q (.ref cl) H'):spOpened K vs H Q E
noncomputable def kAt (pp:Pre) (k i:Nat):Nat:=((pp[i]?).map (·.1)).getD k
theorem scOpened:FnScope ["_law_body_here","_law_path_here","_law_todo","_law_at","_law_deeds","_law_k","_law_head","_law_again","_law_deed","_law_inner"] ["_law_body_here","_law_path_here"] (au tw):=⟨rfl,rfl,rfl,by decide +kernel,rfl,by decide +kernel,by decide +kernel⟩
theorem a3m (C:Con K mg w) (F:Fun K "_law_opened" "_law_opened" tw f fd):FnOk P w K mg base CX0 1 f fd ["_law_body_here","_law_path_here"] (spOpened K):=by
 refine F.okQ scOpened (fun vs H Q E h=>?_) (fun cdv A outer s0 H vs Q E hr h=>?_)
 . obtain⟨_,_,_,_,_,rfl,_⟩:=h;rfl
 obtain⟨bd,pt,l,pp,k,rfl,hpt,hl,hp,q⟩:=h
 have nd:=scOpened.nd
 have hu1:=dn hr
 refine⟨_,ae (ar (i:=2) nd rfl (Or.inl rfl) (bw (fh (aj (qv 0) (az (af (ixTK (K:=K) rfl) (qv 1) ab (fun _ _=>rfl)) (jv a0 (aat a0)))) a0)))
   (ae (dv AH rfl (uk rfl C.range (b9 (bi (bf (lenK (K:=K) rfl) rfl C.len AM (aj (qv 1) a0)) (b9 a0)))) (bo (i:=3) nd rfl (Or.inl rfl)) (ae (jt (af (ixK (K:=K) rfl) (qv 2) (c7 bu ab) (fun _ _=>rfl)) (sf (K:=K) rfl (bo (i:=4) nd rfl (Or.inl rfl)) (bo (i:=5) nd rfl (Or.inl rfl)) (bo (i:=6) nd rfl (Or.inl rfl)) (bo (i:=7) nd rfl (Or.inl rfl))))
   (ae (ar (i:=8) nd rfl (Or.inl rfl) (af (ixK (K:=K) rfl) (qv 4) (qv 5) (fun _ _=>rfl)))
   (ae (ar (i:=9) nd rfl (Or.inl rfl) (af (ixTK (K:=K) rfl) (qv 8) ab (fun _ _=>rfl)))
   (ae (bg (aw bb (af (ixTK (K:=K) rfl) (qv 8) ab (fun _ _=>rfl)) b6 (av _)) (ai (ar (i:=9) nd rfl (Or.inl rfl) (af (ixTK (K:=K) rfl) (qv 8) (ax cg ab (af (ixTK (K:=K) rfl) (qv 1) (qv 3) (fun _ _=>rfl))) (fun _ _=>rfl)))) bq)
   (ai (bp (fq (K:=K) rfl AR BL BM em (qv 2) (fh (aj (qv 9) (az (af (ixTK (K:=K) rfl) (qv 1) (ax cg (qv 3) ab) (fun _ _=>rfl)) (dq (ax (lr (K:=K) rfl) (qv 6) (cf (aj (qv 5) (az (af (ixTK (K:=K) rfl) (qv 1) (qv 3) (fun _ _=>rfl)) a0)))) (bv (cz bb (af (ixTK (K:=K) rfl) (qv 8) ab (fun _ _=>rfl)) b6 (av _)) a0)))) a0)))))))))
   (ai (b5 (qv 2)))),?_⟩
 have kA:∀i,i<=pp.length->(flat pp++[(k:Int)])[2*i]? = some ((kAt pp k i:Nat):Int):=fun i hi=>by
   unfold kAt
   by_cases z:i<pp.length
   . obtain⟨⟨a,b⟩,hab⟩:∃x,pp[i]? = some x:=⟨_,Ai z⟩
     rw[(mq (z:=[(k:Int)]) hab).1,hab];rfl
   . have e:i=pp.length:=by omega
     subst e
     rw[BK (Ah _),<- cm]
     exact Dt
 refine ak (a:=tAsg _ _) fun D1 hD1 _ _=>?_
 refine⟨_,rfl,_,rfl,pt,_,0,_,rfl,rfl,hpt,c8 (j:=0) (by rw[Ak,show (0:Nat)=2*0 from rfl,kA 0 (AG _)];rfl),(show 0<=sizeLine by decide),fun e0 he0=>⟨(show 4<=sizeLine by decide),fun ce hce=>⟨(show 1<=sizeLine by decide),fun cl hcl=>?_⟩⟩⟩
 have s1:=ad he0 (.tup [])
 have s2:=ad hce (.lst [.ref bd,.int ((kAt pp k 0:Nat):Int),.ref e0,.bl false])
 have s3:=ad hcl (.lst [.ref ce])
 have k1:(upd H e0 (.tup [])) e0=some (.tup []):=aa
 have k2:(upd (upd H e0 (.tup [])) ce (.lst [.ref bd,.int ((kAt pp k 0:Nat):Int),.ref e0,.bl false])) ce=some (.lst [.ref bd,.int ((kAt pp k 0:Nat):Int),.ref e0,.bl false]):=aa
 have n2:H ce=none:=s1.free hce
 have n3:H cl=none:=(s1.trans s2).free hcl
 have n32:cl≠ce:=fun z=>by rw[z,k2] at hcl;cases hcl
 have S0:TSt K H (upd (upd (upd H e0 (.tup [])) ce (.lst [.ref bd,.int ((kAt pp k 0:Nat):Int),.ref e0,.bl false])) cl (.lst [.ref ce])) bd cl [⟨ce,bd,kAt pp k 0,e0,[],false⟩] :=
   ⟨(s1.trans s2).trans s3,n3,aa,fun c hc=>by
     cases Au.mp hc
     exact⟨n2,s3 _ _ k2,SqT.of (s3 _ _ (s2 _ _ k1))⟩,fun z=>n32 (Au.mp z),Bb.mpr ⟨by simp,DS⟩,.top _ rfl rfl⟩
 dsimp only
 generalize upd (upd (upd H e0 (.tup [])) ce (.lst [.ref bd,.int ((kAt pp k 0:Nat):Int),.ref e0,.bl false])) cl (.lst [.ref ce])=H3 at S0 |-
 refine hD1 [some (.ref bd),some (.ref pt),some (.ref cl),none,none,none,none,none,none,none] _ ?_
 clear hD1 s1 s2 s3 k1 k2
 have hlen:(((flat pp++[(k:Int)]).map V.int).length:Int)=2*(pp.length:Int)+1:=by rw[Ac,Ag,cm];simp
 refine ak (a:=tFor _ _ _) fun D2 hD2 _ _=>?_
 refine⟨_,rfl,pt,_,rfl,.inr (S0.sX.seqT hpt),1,_,rfl,⟨by decide,by decide,by omega,by omega⟩,?_⟩
 rw[show (((((flat pp++[(k:Int)]).map V.int).length:Int) - 1+1) / 2).toNat=pp.length by omega]
 refine rk (fun i σ G=>∃(c:Tr) (r:List Tr) (z3 z4 z5 z6 z7 z8 z9:Option V),σ=[some (.ref bd),some (.ref pt),some (.ref cl),z3,z4,z5,z6,z7,z8,z9]/\TSt K H G bd cl (c::r)/\c.pp=pp.take i/\c.k=kAt pp k i/\LFrom H c.l (pp.drop i) l) ⟨_,[],none,none,none,none,none,none,none,rfl,S0,rfl,rfl,hl⟩ ?_ ?_
 . rintro i σ G hi ⟨c,r,z3,z4,z5,z6,z7,z8,z9,rfl,S,ep,ek,hm⟩
   obtain⟨⟨a,b⟩,hab⟩:∃x,pp[i]? = some x:=⟨_,Ai hi⟩
   rw[DF hi,(Aq.mp hab).2] at hm
   obtain⟨ts,t,x,hm1,hm2,hm3,hm4⟩:=hm
   have eka:c.k=a:=by rw[ek];unfold kAt;rw[hab];rfl
   have htk:pp.take (i+1)=c.pp++[(c.k,b)]:=by rw[BX,hab,ep,eka];rfl
   have i1:(1:Int)+(i:Int)*2=((2*i+1:Nat):Int):=by omega
   have i2:((2*i+1:Nat):Int)+1=((2*(i+1):Nat):Int):=by omega
   rw[i1]
   have hpt1:=S.sX.seqT hpt
   have at3:atI ((flat pp++[(k:Int)]).map V.int) ((2*i+1:Nat):Int)=some (.int (b:Int)):=c8 (by rw[Ak,(mq (z:=[(k:Int)]) hab).2];rfl)
   have at5:atI ((flat pp++[(k:Int)]).map V.int) (((2*i+1:Nat):Int)+1)=some (.int ((kAt pp k (i+1):Nat):Int)):=by rw[i2];exact c8 (by rw[Ak,kA (i+1) hi];rfl)
   have atd:atI (ts.map V.ref) (c.k:Int)=some (.ref t):=c8 (by rw[Ak,eka,hm2];rfl)
   have ac:=S.at_ c Aj
   have hlr:=S.td.len c r rfl
   have hpl:c.pp.length<=20:=by rw[ep,AS];omega
   have nwi:("while" : Str) ≠ "if" := by decide +kernel
   have ifT:∀{x y:Str},x=y->decide (V.str x=V.str y)=true:=fun z=>by rw[z];simp
   have ifF:∀{x y:Str},x≠y->decide (V.str x=V.str y)=false:=fun z=>decide_eq_false fun y=>z (V.str.inj y)
   refine ak (a:=tAsg _ _) fun E1 hE1 _ _=>?_
   refine⟨_,rfl,_,rfl,cl,_,_,_,rfl,rfl,SqL.of S.last,bh,c.ce,_,rfl,SqL.of ac.hc,rfl,_,_,rfl,_,_,rfl,_,_,rfl,_,_,rfl,rfl,?_⟩
   refine hE1 [some (.ref bd),some (.ref pt),some (.ref cl),some (.int ((2*i+1:Nat):Int)),some (.ref c.l),some (.int (c.k:Int)),some (.ref c.hd),some (.bl c.ag),z8,z9] _ ?_
   clear hE1
   refine ak (a:=tAsg _ _) fun E2 hE2 _ _=>?_
   refine⟨_,rfl,_,rfl,c.l,_,_,.ref t,rfl,rfl,SqL.of (S.sX _ _ hm1),atd,?_⟩
   refine hE2 [some (.ref bd),some (.ref pt),some (.ref cl),some (.int ((2*i+1:Nat):Int)),some (.ref c.l),some (.int (c.k:Int)),some (.ref c.hd),some (.bl c.ag),some (.ref t),z9] _ ?_
   clear hE2
   refine ak (a:=tAsg _ _) fun E3 hE3 _ _=>?_
   have shape:∃(wd:Str) (cc u2:V) (m3:Addr),H t=some (.tup [.str wd,cc,u2,.ref m3]):=by
     rcases hm3 with⟨i',o,cc,h,_⟩|⟨cc,d,h,_⟩
     . exact⟨_,_,_,_,h⟩
     . exact⟨_,_,_,_,h⟩
   obtain⟨wd,cc,u2,m3,ht⟩:=shape
   have t0:=S.sX _ _ ht
   refine⟨_,rfl,t,_,3,_,rfl,rfl,SqT.of t0,rfl,?_⟩
   refine hE3 [some (.ref bd),some (.ref pt),some (.ref cl),some (.int ((2*i+1:Nat):Int)),some (.ref c.l),some (.int (c.k:Int)),some (.ref c.hd),some (.bl c.ag),some (.ref t),some (.ref m3)] _ ?_
   clear hE3
   refine ak (a:=tIfS _ _ _) fun E4 hE4 _ _=>?_
   have app:(∀ce hd,InR H c b ⟨ce,x,kAt pp k (i+1),hd,c.pp++[(c.k,b)],decide (V.str wd=V.str "while")⟩)->E4.nx [some (.ref bd),some (.ref pt),some (.ref cl),some (.int ((2*i+1:Nat):Int)),some (.ref c.l),some (.int (c.k:Int)),some (.ref c.hd),some (.bl c.ag),some (.ref t),some (.ref x)] G:=fun hi'=>by
     refine hE4 _ _ ?_
     refine⟨_,rfl,.inl ⟨rfl,_,SqL.of S.last⟩,_,rfl,_,rfl,_,rfl,_,_,rfl,rfl,pt,_,_,_,rfl,rfl,hpt1,at5,_,rfl,_,rfl,_,rfl,_,rfl,pt,_,_,_,rfl,rfl,hpt1,at3,(show 2<=sizeLine by decide),fun u hu=>?_⟩
     have s2:=ad hu (.tup [.int (c.k:Int),.int (b:Int)])
     have k2:(upd G u (.tup [.int (c.k:Int),.int (b:Int)])) u=some (.tup [.int (c.k:Int),.int (b:Int)]):=aa
     generalize upd G u (.tup [.int (c.k:Int),.int (b:Int)])=G2 at s2 k2 |-
     refine⟨c.hd,u,_,_,rfl,rfl,s2.seqT ac.hh,SqT.of k2,bn (by rw[Ac,cm];simp;omega),fun hd G3 e3 hh3=>?_⟩
     have e03:=s2.trans e3
     refine⟨_,rfl,t,_,0,_,rfl,rfl,SqT.of (e03 _ _ t0),at0,rfl,(show 4<=sizeLine by decide),fun ce hce=>?_⟩
     have s4:=ad hce (.lst [.ref x,.int ((kAt pp k (i+1):Nat):Int),.ref hd,.bl (decide (V.str wd=V.str "while"))])
     have k4:(upd G3 ce (.lst [.ref x,.int ((kAt pp k (i+1):Nat):Int),.ref hd,.bl (decide (V.str wd=V.str "while"))])) ce=some (.lst [.ref x,.int ((kAt pp k (i+1):Nat):Int),.ref hd,.bl (decide (V.str wd=V.str "while"))]):=aa
     dsimp only
     generalize upd G3 ce (.lst [.ref x,.int ((kAt pp k (i+1):Nat):Int),.ref hd,.bl (decide (V.str wd=V.str "while"))])=G4 at s4 k4 |-
     have e04:=e03.trans s4
     have S4:=S.same e04
     have hh4:SqT K G4 hd ((flat (c.pp++[(c.k,b)])).map V.int):=by
       have:=s4.seqT hh3
       rw[gy]
       simpa [flat] using this
     have nce:G ce=none:=e03.free hce
     refine⟨cl,_,_,rfl,rfl,S4.hcl,cx (by rw[C0,Ac,A0];omega),?_⟩
     have S5:=S4.push (c:=⟨ce,x,kAt pp k (i+1),hd,c.pp++[(c.k,b)],decide (V.str wd=V.str "while")⟩) ⟨S.sX.free nce,k4,hh4⟩ (fun z=>by have y:=S.hcl;rw[<- z] at y;rw[show G ce=none from nce] at y;cases y) (fun z=>by
       obtain⟨d,hd',e⟩:=AF.mp z
       have y:=(S.at_ d hd').hc
       rw[show d.ce=ce from e,nce] at y;cases y) (.deep _ c r b S.td (hi' ce hd))
     exact⟨_,_,_,_,_,_,_,_,_,rfl,S5,htk.symm,rfl,hm4⟩
   have hm2':ts[c.k]? = some t:=by rw[eka];exact hm2
   rcases hm3 with⟨i',o,cc',h,hs⟩|⟨cc',d,h,hs⟩
   . rw[ht] at h;cases h
     have at4:atI [V.str "if",cc,.ref i',.ref m3] (2+(b:Int))=some (.ref x):=by rcases hs with⟨rfl,rfl⟩|⟨rfl,rfl⟩<;>rfl
     refine⟨_,rfl,t,_,0,_,rfl,rfl,SqT.of t0,at0,rfl,_,rfl,iteB (fun _=>?_) (fun c=>absurd c (by simp))⟩
     refine⟨_,rfl,_,rfl,_,rfl,pt,_,_,_,rfl,rfl,hpt1,at3,_,_,rfl,rfl,t,_,_,_,rfl,rfl,SqT.of t0,at4,?_⟩
     exact app fun ce hd=>⟨ts,t,hm1,hm2',rfl,.inl ⟨ifF (x := "if") (AO nwi),_,_,_,ht,hs⟩⟩
   . rw[ht] at h;cases h
     refine⟨_,rfl,t,_,0,_,rfl,rfl,SqT.of t0,at0,rfl,_,rfl,iteB (fun c=>absurd (V.str.inj (of_decide_eq_true c)) nwi) (fun _=>?_)⟩
     exact app fun ce hd=>⟨ts,t,hm1,hm2',rfl,.inr ⟨ifT (x := "while") rfl,hs,_,_,ht⟩⟩
 rintro σ G ⟨c,r,z3,z4,z5,z6,z7,z8,z9,rfl,S,ep,ek,hm⟩
 refine hD2 _ _ ⟨_,rfl,q cl c r G S ?_⟩
 rw[ep,ek,BD]
 unfold kAt
 rw[BK (Ah _)];rfl
theorem LFrom.unapp {X:Hp}{i s:Nat}{l:Addr}:∀{q:Pre}{bd:Addr},LFrom X bd (q++[(i,s)]) l->∃(l':Addr) (ts:List Addr) (t:Addr),LFrom X bd q l'/\X l'=some (.lst (ts.map V.ref))/\ts[i]? = some t/\Side X t s l
 | [],bd,h=>by
   obtain⟨ts,t,m,h1,h2,h3,h4⟩:=h
   have h4:m=l:=h4
   subst h4
   exact⟨bd,ts,t,rfl,h1,h2,h3⟩
 | (j,u)::q,bd,h=>by
   obtain⟨ts,t,m,h1,h2,h3,h4⟩:=h
   obtain⟨l',ts',t',g1,g2,g3,g4⟩:=LFrom.unapp (q:=q) (bd:=m) h4
   exact⟨l',ts',t',⟨ts,t,m,h1,h2,h3,g1⟩,g2,g3,g4⟩
theorem LEnd.of {X:Hp}{bd:Addr}{ts0:List Addr}(h0:X bd=some (.lst (ts0.map V.ref))):∀(n:Nat) {p:Pre}{l:Addr},p.length=n->LFrom X bd p l->∃due e,LEnd X bd p l due e/\due.1.length<=p.length
 | 0,p,l,hn,h=>by
   have e:p=[]:=AY hn
   subst e
   have h:bd=l:=h
   subst h
   exact⟨_,_,.top ts0 h0,Ah _⟩
 | n+1,p,l,hn,h=>by
   have hne:p≠[]:=fun z=>by rw[z] at hn;cases hn
   obtain⟨q,⟨i,s⟩,rfl⟩:∃(q:Pre) (x:Nat×Nat),p=q++[x]:=⟨p.dropLast,p.getLast hne,(ER hne).symm⟩
   rw[Ag] at hn
   have hq:q.length=n:=by simpa using hn
   obtain⟨l',ts,t,g1,g2,g3,g4⟩:=h.unapp
   obtain⟨due,e,hE,hl⟩:=LEnd.of h0 n hq g1
   have hil:=(Aq.mp g3).1
   rcases g4 with⟨a,o,c,h1,h2⟩|⟨c,d,h1,h2⟩
   . by_cases z:i+1=ts.length
     . exact⟨_,_,.last q l' ts i s t a o l c due e hE g2 g3 h1 h2 z,by rw[Ag];omega⟩
     . exact⟨_,_,.next q l' ts i s t a o l _ c due e hE g2 g3 h1 h2 (Ai (by omega)),by rw[Ag];exact Co _ _⟩
   . subst h2
     exact⟨_,_,.loop q l' ts i t l c d due e hE g2 g3 h1,by rw[Ag];exact Co _ _⟩
theorem Stands.of {X:Hp}{bd l:Addr}{ts0 ts:List Addr}{p:Pre}{k:Nat}(h0:X bd=some (.lst (ts0.map V.ref))) (h:LFrom X bd p l) (hl:X l=some (.lst (ts.map V.ref))) (hk:k<=ts.length):∃due e,Stands X bd p k due e/\due.1.length<=p.length:=by
 by_cases z:k<ts.length
 . exact⟨_,_,.own l _ ts h hl (Ai z) rfl rfl,Ah _⟩
 . obtain⟨due,e,hE,hle⟩:=LEnd.of h0 _ rfl h
   exact⟨due,e,.fin l ts hE hl (by omega),hle⟩
noncomputable def subD:Deed->Nat->Option (List Deed)
 | .cond _ a _,0=>some a
 | .cond _ _ b,1=>some b
 | .loop _ _ _ a,0=>some a
 | _,_=>none
noncomputable def subL:List Deed->Pre->Option (List Deed)
 | ds,[]=>some ds
 | ds,(k,s)::p=>(ds[k]?).bind fun d=>(subD d s).bind fun es=>subL es p
noncomputable def nh:Option Deed->Bool
 | some (.loop _ _ _ _)=>true
 | _=>false
theorem ja {K:Ab}{X:Hp}{L:Addr->List Deed->Prop}{t m:Addr}{s:Nat}{d:Deed}(h:DeedX K X L t d) (hs:Side X t s m):∃es,subD d s=some es/\L m es:=by
 rcases hs with⟨i,o,c,h1,h2⟩|⟨c,dd,h1,h2⟩
 . cases h with
   | plain p g1 g2=>cases p with
     | row r =>
       have g1:X t=some (.tup (r.map V.str)):=g1
       rw[h1] at g1
       injection g1 with g1;injection g1 with g1
       cases r with
       | nil=>cases g1
       | cons a r=>cases r with
         | nil=>cases g1
         | cons b r=>cases r with
           | nil=>cases g1
           | cons d r=>simp at g1
     | call x cc vs =>
       obtain⟨v,g1,_⟩:=g1
       rw[h1] at g1
       injection g1 with g1;injection g1 with g1
       simp at g1
   | cond c' i' o' r a b g =>
     rw[h1] at g;cases g
     rename_i hc okr hi ho
     rcases h2 with⟨rfl,rfl⟩|⟨rfl,rfl⟩
     . exact⟨a,rfl,hi⟩
     . exact⟨b,rfl,ho⟩
   | loop c' td i' fa pa r F P a g =>
     rw[h1] at g
     injection g with g;injection g with g
     simp at g;exact absurd g.1 (by decide +kernel)
 . cases h with
   | plain p g1 g2=>cases p with
     | row r =>
       have g1:X t=some (.tup (r.map V.str)):=g1
       rw[h1] at g1
       injection g1 with g1;injection g1 with g1
       cases r with
       | nil=>cases g1
       | cons a r=>cases r with
         | nil=>cases g1
         | cons b r=>cases r with
           | nil=>cases g1
           | cons d r=>cases r with
             | nil=>cases g1
             | cons e r=>simp at g1
     | call x cc vs =>
       obtain⟨v,g1,_⟩:=g1
       rw[h1] at g1
       injection g1 with g1;injection g1 with g1
       simp at g1;exact absurd g1.1 (by decide +kernel)
   | cond c' i' o' r a b g =>
     rw[h1] at g
     injection g with g;injection g with g
     simp at g;exact absurd g.1 (by decide +kernel)
   | loop c' td i' fa pa r F P a g =>
     rw[h1] at g;cases g
     rename_i hi
     subst h2
     exact⟨a,rfl,hi⟩
theorem a3o {K:Ab}{X:Hp}:∀{p:Pre}{bs:List Nat}{l l':Addr}{ds:List Deed},ListX K X bs l ds->LFrom X l p l'->∃es bs',subL ds p=some es/\ListX K X bs' l' es
 | [],bs,l,l',ds,h,hf=>by
   have hf:l=l':=hf
   subst hf
   exact⟨ds,bs,rfl,h⟩
 | (k,s)::p,[],l,l',ds,h,hf=>h.elim
 | (k,s)::p,b::bs,l,l',ds,h,hf=>by
   obtain⟨ts,t,m,h1,h2,h3,h4⟩:=hf
   obtain⟨ts',g1,g2,_⟩:=h
   have e:=fe h1 g1
   subst e
   obtain⟨d,hd,hx⟩:=Paired.nth g2 h2
   obtain⟨es,e1,e2⟩:=ja hx h3
   obtain⟨es',bs',e3,e4⟩:=a3o e2 h4
   refine⟨es',bs',?_,e4⟩
   unfold subL
   rw[hd]
   show (subD d s).bind (fun es=>subL es p)=_
   rw[e1];exact e3
theorem il {K:Ab}{X:Hp}{bs:List Nat}{bd l:Addr}{ds:List Deed}{p:Pre}{ts:List Addr}(h:ListX K X bs bd ds) (hf:LFrom X bd p l) (hl:X l=some (.lst (ts.map V.ref))):∃es,subL ds p=some es/\es.length=ts.length/\∀(i:Nat) (t:Addr),ts[i]? = some t->∃d bs',es[i]? = some d/\DeedX K X (ListX K X bs') t d:=by
 obtain⟨es,bs',e1,e2⟩:=a3o h hf
 cases bs' with
 | nil=>exact e2.elim
 | cons b bs' =>
   obtain⟨ts',g1,g2,_⟩:=e2
   have e:=fe hl g1
   subst e
   refine⟨es,e1,(AD g2).symm,fun i t ht=>?_⟩
   obtain⟨d,hd,hx⟩:=Paired.nth g2 ht
   exact⟨d,bs',hd,hx⟩
noncomputable def dueR (ds:List Deed):Pre->Nat->Pre×Nat
 | [],k=>([],k)
 | (i,s)::q,k=>if k<((subL ds (q.reverse++[(i,s)])).getD []).length then (q.reverse++[(i,s)],k) else dueR ds q (if nh ((subL ds q.reverse).bind (·[i]?))=true then i else i+1)
theorem a07 {K:Ab}{X:Hp}{L:Addr->List Deed->Prop}{t:Addr}{d:Deed}(h:DeedX K X L t d):(∀c a m,X t=some (.tup [.str "while",c,a,.ref m])->nh (some d)=true)/\∀c a m,X t=some (.tup [.str "if",c,.ref a,.ref m])->nh (some d)=false:=by
 refine⟨fun c a m h1=>?_,fun c a m h1=>?_⟩
 . obtain⟨es,e,_⟩:=ja h (.loop c a h1 rfl)
   cases h with
   | plain p g1 g2=>cases e
   | cond c' i' o' r a' b g =>
     rw[h1] at g
     injection g with g;injection g with g
     simp at g;exact absurd g.1 (by decide +kernel)
   | loop=>rfl
 . cases h with
   | plain p g1 g2=>rfl
   | cond=>rfl
   | loop c' td i' fa pa r F P a' g =>
     rw[h1] at g
     injection g with g;injection g with g
     simp at g;exact absurd g.1 (by decide +kernel)
theorem rh {K:Ab}{X:Hp}{bs:List Nat}{bd:Addr}{ds:List Deed}(h:ListX K X bs bd ds):∀(q:Pre) {k:Nat}{due:Pre×Nat}{e:Option Addr},Stands X bd q.reverse k due e->due=dueR ds q k
 | [],k,due,e,hs=>by
   rcases hs with⟨l,t,ts,hl,h1,hk,hd,he⟩|⟨l,ts,hl,h1,hk⟩
   . exact hd
   . obtain⟨ts',g1,g2,g3,_⟩:=hl.zero rfl
     subst g1
     have e:=fe h1 g2
     subst e
     rw[g3,hk];rfl
 | (i,s)::q,k,due,e,hs=>by
   rw[CS] at hs
   unfold dueR
   rcases hs with⟨l,t,ts,hl,h1,hk,hd,he⟩|⟨l,ts,hl,h1,hk⟩
   . obtain⟨es,e1,e2,_⟩:=il h hl h1
     rw[e1,if_pos (by show k<es.length;rw[e2];exact (Aq.mp hk).1)]
     exact hd
   . obtain⟨es,e1,e2,_⟩:=il h hl.from h1
     rw[e1,if_neg (by show ¬ k<es.length;omega)]
     obtain⟨p',k',s',l',t,ts',ep,hl',h1',h2',h3'⟩:=hl.up (by simp)
     obtain⟨rfl,ek⟩:=xh ep
     cases ek
     obtain⟨es',f1,_,f3⟩:=il h hl' h1'
     obtain⟨d,_,f4,f5⟩:=f3 _ _ h2'
     rw[f1]
     show due=dueR ds q (if nh (es'[i]?)=true then i else i+1)
     rw[f4]
     rcases h3' with⟨c,a,o,g1,g2⟩|⟨c,a,o,g1,g2⟩
     . rw[(a07 f5).2 _ _ _ g1,if_neg Af]
       exact rh h q g2
     . rw[(a07 f5).1 _ _ _ g1,if_pos rfl]
       exact rh h q g2
noncomputable def OkD (ys:List Str):Deed->Prop
 | .plain (.row r)=>∃x y:Str,r=[("set" : Str),x,y]/\x∈ys/\y∈ys++[("nil" : Str)]
 | .plain (.call _ _ _)=>False
 | .cond r _ _=>∃f x y:Str,r=[f,x,y]/\x∈ys++[("nil" : Str)]/\y∈ys++[("nil" : Str)]
 | .loop r _ _ _=>∃f x y:Str,r=[f,x,y]/\x∈ys++[("nil" : Str)]/\y∈ys++[("nil" : Str)]
noncomputable def AllD (ys:List Str) (ds:List Deed):Prop:=∀(p:Pre) es (i:Nat) d,subL ds p=some es->es[i]? = some d->OkD ys d
noncomputable def a2h (F:Str->Int):List Str->Bool
 | [f,x,y]=>c5 f (nilF F x) (nilF F y)
 | _=>false
noncomputable def ab0 (F:Str->Int):Deed->Str->Int
 | .plain (.row [_,x,y])=>upF F x (nilF F y)
 | _=>F
noncomputable def i9 (F:Str->Int) (p:Pre) (k:Nat):Deed->Pre×Nat
 | .cond r _ _=>goP (a2h F r) "if" p k
 | .loop r _ _ _=>goP (a2h F r) "while" p k
 | _=>(p,k+1)
theorem jf {K:Ab}{X:Hp}:∀{bs:List Nat}{l:Addr}{ds:List Deed},ListX K X bs l ds->∃ts:List Addr,X l=some (.lst (ts.map V.ref))
 | [],_,_,h=>h.elim
 | _::_,_,_,⟨ts,h,_⟩=>⟨ts,h⟩
theorem a75 {K:Ab}{X:Hp}{bs:List Nat}{bd l t:Addr}{ds:List Deed}{ys:List Str}{F:Str->Int}{p:Pre}{k:Nat}{ts:List Addr}(h:ListX K X bs bd ds) (ok:AllD ys ds) (hf:LFrom X bd p l) (hl:X l=some (.lst (ts.map V.ref))) (hk:ts[k]? = some t) :
   ∃es d,subL ds p=some es/\es[k]? = some d/\DoN K X bd ys F p k t (ab0 F d) (dueR ds (i9 F p k d).1.reverse (i9 F p k d).2)/\(dueR ds (i9 F p k d).1.reverse (i9 F p k d).2).1.length<=p.length+1:=by
 obtain⟨es,e1,e2,e3⟩:=il h hf hl
 obtain⟨d,bs',hd,hx⟩:=e3 _ _ hk
 have okd:=ok p es k d e1 hd
 have hkl:=(Aq.mp hk).1
 obtain⟨ts0,h0⟩:=jf h
 have stand:∀(p':Pre) (k':Nat) (l':Addr) (ts':List Addr),LFrom X bd p' l'->X l'=some (.lst (ts'.map V.ref))->k'<=ts'.length->p'.length<=p.length+1->∃e,Stands X bd p' k' (dueR ds p'.reverse k') e/\(dueR ds p'.reverse k').1.length<=p.length+1:=fun p' k' l' ts' g1 g2 g3 g4=>by
   obtain⟨due,e,s1,s2⟩:=Stands.of h0 g1 g2 g3
   have:=rh h p'.reverse (by rw[Hh];exact s1)
   subst this
   exact⟨e,s1,Ax s2 g4⟩
 have into:∀(s:Nat) (m:Addr),Side X t s m->∃e,Stands X bd (p++[(k,s)]) 0 (dueR ds (p++[(k,s)]).reverse 0) e/\(dueR ds (p++[(k,s)]).reverse 0).1.length<=p.length+1:=fun s m hs=>by
   obtain⟨es',_,hL⟩:=ja hx hs
   obtain⟨ts',ht'⟩:=jf hL
   exact stand _ 0 m ts' (hf.app ⟨ts,t,m,hl,hk,hs,rfl⟩) ht' (AG _) (by rw[Ag];exact Ah _)
 have behind:=stand p (k+1) l ts hf hl (by omega) (CD _)
 refine⟨es,d,e1,hd,?_⟩
 cases d with
 | plain q =>
   cases q with
   | row r =>
     obtain⟨x,y,rfl,hxy,hy⟩:=okd
     obtain⟨e,s1,s2⟩:=behind
     cases hx with
     | plain _ g1 _=>exact⟨.set x y _ e g1 hxy hy s1,s2⟩
   | call=>exact okd.elim
 | cond r a b =>
   obtain⟨f,x,y,rfl,hxx,hy⟩:=okd
   cases hx with
   | cond c i o _ _ _ ht hc =>
     have goal:∃e,Stands X bd (goP (c5 f (nilF F x) (nilF F y)) "if" p k).1 (goP (c5 f (nilF F x) (nilF F y)) "if" p k).2 (dueR ds (goP (c5 f (nilF F x) (nilF F y)) "if" p k).1.reverse (goP (c5 f (nilF F x) (nilF F y)) "if" p k).2) e/\(dueR ds (goP (c5 f (nilF F x) (nilF F y)) "if" p k).1.reverse (goP (c5 f (nilF F x) (nilF F y)) "if" p k).2).1.length<=p.length+1:=by
       unfold goP
       by_cases z:c5 f (nilF F x) (nilF F y)=true
       . rw[if_pos z];exact into 0 i (.cond i o _ ht (.inl ⟨rfl,rfl⟩))
       . rw[if_neg z,if_pos rfl];exact into 1 o (.cond i o _ ht (.inr ⟨rfl,rfl⟩))
     obtain⟨e,s1,s2⟩:=goal
     exact⟨.branch "if" f x y c _ o _ e (.inr ⟨rfl,i,rfl⟩) ht hc hxx hy s1,s2⟩
 | loop r FF PP a =>
   obtain⟨f,x,y,rfl,hxx,hy⟩:=okd
   cases hx with
   | loop c td i fa pa _ _ _ _ ht hc =>
     have goal:∃e,Stands X bd (goP (c5 f (nilF F x) (nilF F y)) "while" p k).1 (goP (c5 f (nilF F x) (nilF F y)) "while" p k).2 (dueR ds (goP (c5 f (nilF F x) (nilF F y)) "while" p k).1.reverse (goP (c5 f (nilF F x) (nilF F y)) "while" p k).2) e/\(dueR ds (goP (c5 f (nilF F x) (nilF F y)) "while" p k).1.reverse (goP (c5 f (nilF F x) (nilF F y)) "while" p k).2).1.length<=p.length+1:=by
       unfold goP
       by_cases z:c5 f (nilF F x) (nilF F y)=true
       . rw[if_pos z];exact into 0 i (.loop _ _ ht rfl)
       . rw[if_neg z,if_neg (by decide +kernel)];exact behind
     obtain⟨e,s1,s2⟩:=goal
     exact⟨.branch "while" f x y c _ i _ e (.inl rfl) ht hc hxx hy s1,s2⟩
noncomputable abbrev a1i:Stmt:=top 43
inductive spPath (K:Ab) (vs:List V) (H:Hp) (Q:VK) (E:XK):Prop
 | mk (bd:Addr) (n:Int) (bs:List Nat) (ds:List Deed) (ys:List Str) (h0:vs=[.ref bd,.int n]) (h1:ListX K H bs bd ds) (h2:bs.length<=20) (h3:∀b∈bs,b<=1000) (ok:AllD ys ds) (q:∀pt (pp:Pre) (k:Nat) l (ts:List Addr) H',Same H H'->SqT K H' pt ((flat pp++[(k:Int)]).map V.int)->LFrom H bd pp l->H l=some (.lst (ts.map V.ref))->k<=ts.length->pp.length<bs.length->Q (.ref pt) H'):spPath K vs H Q E
theorem a04 {es fs:List Deed}{k s:Nat}{d:Deed}:∀{p:Pre}{ds:List Deed},subL ds p=some es->es[k]? = some d->subD d s=some fs->subL ds (p++[(k,s)])=some fs
 | [],ds,h1,h2,h3=>by
   cases h1
   show (es[k]?).bind _=_
   rw[h2];show (subD d s).bind _=_;rw[h3];rfl
 | (i,u)::p,ds,h1,h2,h3=>by
   unfold subL at h1
   obtain⟨d',e1,e2⟩:=FR.mp h1
   obtain⟨gs,e3,e4⟩:=FR.mp e2
   show (ds[i]?).bind _=_
   rw[e1];show (subD d' u).bind _=_;rw[e3]
   exact a04 e4 h2 h3
theorem scPath:FnScope ["_law_body_here","_law_cell","_law_deeds","_law_path_here","_law_k","_law_side"] ["_law_body_here","_law_cell"] (au a1i):=⟨rfl,rfl,rfl,by decide +kernel,rfl,by decide +kernel,by decide +kernel⟩
theorem a7x (C:Con K mg w) (F:Fun K "_law_path" "_law_path" a1i f fd):FnOk P w K mg base CX0 1 f fd ["_law_body_here","_law_cell"] (spPath K):=by
 refine F.okQ scPath (fun vs H Q E h=>?_) (fun cdv A outer s0 H vs Q E hr h=>?_)
 . obtain⟨_,_,_,_,_,rfl,_⟩:=h;rfl
 obtain⟨bd,n,bs,ds,ys,rfl,h1,h2,h3,ok,q⟩:=h
 have nd:=scPath.nd
 have hu1:=dn hr
 refine⟨_,ae (ar (i:=2) nd rfl (Or.inl rfl) (qv 0))
   (ae (ar (i:=3) nd rfl (Or.inl rfl) (cf a0))
   (ai (i3 AH (ft ge) (ae (ar (i:=4) nd rfl (Or.inl rfl) (ax cn (qv 1) (ax cg (bf (lenK (K:=K) rfl) rfl C.len AM (aj (qv 2) a0)) ab)))
   (ae (ar (i:=1) nd rfl (Or.inl rfl) (ax et (qv 1) (ax cg (bf (lenK (K:=K) rfl) rfl C.len AM (aj (qv 2) a0)) ab)))
   (ae (ar (i:=3) nd rfl (Or.inl rfl) (ax (lr (K:=K) rfl) (qv 3) (cf (aj (qv 4) a0))))
   (ae (bg (QW.qt (kg (aw bb (qv 4) (bf (lenK (K:=K) rfl) rfl C.len AM (aj (qv 2) a0)) (av _)) (kg (aw (a7o (K:=K) rfl) (af (ixTK (K:=K) rfl) (af (ixK (K:=K) rfl) (qv 2) (qv 4) (fun _ _=>rfl)) ab (fun _ _=>rfl)) (cf (c6 (c6 a0))) (by with_unfolding_all rfl)) (lj (aw bb (ax cn (qv 1) ab) ab (av _)))))) (ai (b5 (qv 3))) bq)
   (ae (ar (i:=5) nd rfl (Or.inl rfl) (ax io (be en rfl C.int BN (bv (cz bb (af (ixTK (K:=K) rfl) (af (ixK (K:=K) rfl) (qv 2) (qv 4) (fun _ _=>rfl)) ab (fun _ _=>rfl)) b6 (av _)) a0)) (ax cn (ax et (qv 1) ab) ab)))
   (ae (ar (i:=3) nd rfl (Or.inl rfl) (ax (lr (K:=K) rfl) (qv 3) (cf (aj (qv 5) a0))))
   (ae (ar (i:=2) nd rfl (Or.inl rfl) (af (ixTK (K:=K) rfl) (af (ixK (K:=K) rfl) (qv 2) (qv 4) (fun _ _=>rfl)) (af (ixK (K:=K) rfl) (bw (b9 (dq (ax cg ab (qv 5)) a0))) (be en rfl C.int BN (bv (cz bb (af (ixTK (K:=K) rfl) (af (ixK (K:=K) rfl) (qv 2) (qv 4) (fun _ _=>rfl)) ab (fun _ _=>rfl)) b6 (av _)) a0)) (fun _ _=>rfl)) (fun _ _=>rfl)))
   (ai (ar (i:=1) nd rfl (Or.inl rfl) (ax et (qv 1) ab))))))))))))),?_⟩
 refine ak (a:=tAsg _ _) fun D1 hD1 _ _=>?_
 refine⟨_,rfl,?_⟩
 refine hD1 [some (.ref bd),some (.int n),some (.ref bd),none,none,none] _ ?_
 clear hD1
 refine ak (a:=tAsg _ _) fun D2 hD2 _ _=>?_
 refine⟨(show 0<=sizeLine by decide),fun e0 he0=>?_⟩
 have s1:=ad he0 (.tup [])
 have k1:(upd H e0 (.tup [])) e0=some (.tup []):=aa
 dsimp only
 generalize upd H e0 (.tup [])=H1 at s1 k1 |-
 refine hD2 [some (.ref bd),some (.int n),some (.ref bd),some (.ref e0),none,none] _ ?_
 clear hD2
 refine⟨fun m σ G=>∃(n:Int) (l pt:Addr) (pp:Pre) (bs':List Nat) (es:List Deed) (z4 z5:Option V),m=bs'.length/\σ=[some (.ref bd),some (.int n),some (.ref l),some (.ref pt),z4,z5]/\Same H G/\SqT K G pt ((flat pp).map V.int)/\LFrom H bd pp l/\ListX K H bs' l es/\subL ds pp=some es/\pp.length+bs'.length=bs.length/\∀b∈bs',b<=1000,⟨bs.length,n,bd,e0,[],bs,ds,none,none,rfl,rfl,s1,SqT.of k1,rfl,h1,rfl,by simp,h3⟩,?_⟩
 rintro m σ G ⟨n,l,pt,pp,bs',es,z4,z5,rfl,rfl,sG,hpt,hf,hL,hsub,hlen,hb⟩
 cases bs' with
 | nil=>exact hL.elim
 | cons b0 bs' =>
 obtain⟨ts,hl,hpr,hle⟩:=hL
 have hb0:=hb b0 Aj
 have ll:((ts.map V.ref).length:Int)=(ts.length:Int):=by rw[Ac]
 refine⟨_,rfl,iteB (fun _=>?_) (fun c=>by cases c)⟩
 refine⟨fun σ' G'=>∃(n:Int) (l pt:Addr) (pp:Pre) (es:List Deed) (z4 z5:Option V),σ'=[some (.ref bd),some (.int n),some (.ref l),some (.ref pt),z4,z5]/\Same H G'/\SqT K G' pt ((flat pp).map V.int)/\LFrom H bd pp l/\ListX K H bs' l es/\subL ds pp=some es/\pp.length+bs'.length=bs.length,fun σ' G' hN=>?_,?_⟩
 . obtain⟨n,l,pt,pp,es,z4,z5,e,g1,g2,g3,g4,g5,g6⟩:=hN
   exact⟨bs'.length,Cb _,n,l,pt,pp,bs',es,z4,z5,rfl,e,g1,g2,g3,g4,g5,g6,fun b hb'=>hb b (Ao _ hb')⟩
 have hL':=sG _ _ hl
 obtain⟨k,ek,hk⟩:∃k:Nat,n % (((ts.map V.ref).length:Int)+1)=(k:Int)/\k<=ts.length:=by
   rw[ll]
   have g1:=Ca n (show (ts.length:Int)+1≠0 by omega)
   have g2:=BQ n (show (0:Int)<(ts.length:Int)+1 by omega)
   exact⟨(n % ((ts.length:Int)+1)).toNat,by omega,by omega⟩
 refine ak (a:=tAsg _ _) fun E1 hE1 _ _=>?_
 refine⟨_,rfl,_,rfl,l,_,rfl,.inl (SqL.of hL'),_,_,rfl,rfl,_,_,rfl,rfl,(show (0:Int)<((ts.map V.ref).length:Int)+1 by omega),?_⟩
 dsimp only
 rw[ek]
 refine hE1 [some (.ref bd),some (.int n),some (.ref l),some (.ref pt),some (.int (k:Int)),z5] _ ?_
 clear hE1
 refine ak (a:=tAsg _ _) fun E2 hE2 _ _=>?_
 refine⟨_,rfl,_,rfl,l,_,rfl,.inl (SqL.of hL'),_,_,rfl,rfl,_,_,rfl,rfl,(show CDiv _ (((ts.map V.ref).length:Int)+1) from⟨by omega,by rw[ll];omega⟩),?_⟩
 dsimp only
 generalize n / (((ts.map V.ref).length:Int)+1)=n2
 refine hE2 [some (.ref bd),some (.int n2),some (.ref l),some (.ref pt),some (.int (k:Int)),z5] _ ?_
 clear hE2
 refine ak (a:=tAsg _ _) fun E3 hE3 _ _=>?_
 refine⟨_,rfl,_,rfl,(show 1<=sizeLine by decide),fun u hu=>?_⟩
 have s2:=ad hu (.tup [.int (k:Int)])
 have k2:(upd G u (.tup [.int (k:Int)])) u=some (.tup [.int (k:Int)]):=aa
 generalize upd G u (.tup [.int (k:Int)])=G2 at s2 k2 |-
 have hpl:pp.length<=20:=by omega
 refine⟨pt,u,_,_,rfl,rfl,s2.seqT hpt,SqT.of k2,bn (by rw[Ac,cm];simp;omega),fun p3 G3 e3 hp3=>?_⟩
 have sG3:=(sG.trans s2).trans e3
 have hp3:SqT K G3 p3 ((flat pp++[(k:Int)]).map V.int):=by rw[AB];exact hp3
 refine hE3 [some (.ref bd),some (.int n2),some (.ref l),some (.ref p3),some (.int (k:Int)),z5] _ ?_
 clear hE3
 have hL3:=sG3 _ _ hl
 have done:∀G4,Same G3 G4->Q (.ref p3) G4:=fun G4 e4=>q p3 pp k l ts G4 (sG3.trans e4) (e4.seqT hp3) hf hl hk (by rw[A0] at hlen;omega)
 refine ak (a:=tIfS _ _ _) fun E4 hE4 hR4 _=>?_
 refine⟨_,rfl,_,rfl,l,_,rfl,.inl (SqL.of hL3),rfl,_,rfl,iteB (fun _=>?_) (fun c1=>?_)⟩
 . exact⟨_,rfl,hR4 _ _ (done G3 (Same.refl _))⟩
 have hkl:k<ts.length:=by
   have:=of_decide_eq_false c1
   rw[Ac] at this
   have z:k≠ts.length:=fun z=>this (by rw[z])
   omega
 obtain⟨t,ht⟩:∃t,ts[k]? = some t:=⟨_,Ai hkl⟩
 obtain⟨d,hd,hx⟩:=Paired.nth hpr ht
 have okd:=ok pp es k d hsub hd
 have atd:atI (ts.map V.ref) (k:Int)=some (.ref t):=c8 (by rw[Ak,ht];rfl)
 have shape:∃(wd:Str) (us:List V),H t=some (.tup (.str wd::us))/\((wd = "if" \/ wd = "while")->(wd = "if" /\ ∃(cc:V) (i o:Addr),us=[cc,.ref i,.ref o])\/(wd = "while" /\ ∃(cc dd:V) (i:Addr),us=[cc,dd,.ref i])):=by
   cases hx with
   | plain p g1 g2 =>
     cases p with
     | row r =>
       obtain⟨x,y,rfl,_⟩:=okd
       exact⟨"set",_,g1,fun z=>absurd z (by decide +kernel)⟩
     | call=>exact okd.elim
   | cond c i o r a b g=>exact⟨_,_,g,fun _=>.inl ⟨rfl,_,_,_,rfl⟩⟩
   | loop c td i fa pa r F P a g=>exact⟨_,_,g,fun _=>.inr ⟨rfl,_,_,_,rfl⟩⟩
 obtain⟨wd,us,ht0,hsh⟩:=shape
 have t3:=sG3 _ _ ht0
 refine⟨_,rfl,_,rfl,l,_,_,.ref t,rfl,rfl,SqL.of hL3,atd,t,_,0,_,rfl,rfl,SqT.of t3,at0,(show 2<=sizeLine by decide),fun p2 hp2=>?_⟩
 have s4:=ad hp2 (.tup [.str "if",.str "while"])
 have k4:(upd G3 p2 (.tup [.str "if",.str "while"])) p2=some (.tup (([("if" : Str),"while"]:List Str).map V.str)):=aa
 generalize upd G3 p2 (.tup [.str "if",.str "while"])=G4 at s4 k4 |-
 refine⟨p2,_,rfl,.inr (SqT.of k4),rfl,gn _,_,rfl,?_⟩
 rw[gl,if_pos rfl]
 refine iteB (fun _=>⟨_,rfl,hR4 _ _ (done G4 s4)⟩) (fun c2=>?_)
 have hw:wd = "if" \/ wd = "while" := by
   rw[Bool.not_eq_false'] at c2
   simpa using of_decide_eq_true c2
 refine⟨_,rfl,_,_,rfl,rfl,(show (0:Int)<2 by decide),rfl,_,rfl,iteB (fun _=>⟨_,rfl,hR4 _ _ (done G4 s4)⟩) (fun _=>hE4 _ _ ?_)⟩
 clear hE4
 have sG4:=sG3.trans s4
 have hL4:=sG4 _ _ hl
 have t4:=sG4 _ _ ht0
 have hp4:=s4.seqT hp3
 have nwi:("while" : Str) ≠ "if" := by decide +kernel
 have hm2:n2 / 2 % 2=0\/n2 / 2 % 2=1:=by omega
 obtain⟨s,x,hsd,es1,es2⟩:∃(s:Nat) (x:Addr),Side H t s x/\(if decide (V.str wd=V.str "if")=true then (1:Int) else 0)*(n2 / 2 % 2)=(s:Int)/\∃j:Nat,atI [V.int 3,V.int (2+(s:Int))] (if decide (V.str wd=V.str "if")=true then (1:Int) else 0)=some (.int (j:Int))/\(V.str wd::us)[j]? = some (.ref x):=by
   rcases hsh hw with⟨rfl,cc,i,o,rfl⟩|⟨rfl,cc,dd,i,rfl⟩
   . rw[if_pos (by simp)]
     rcases hm2 with z|z
     . exact⟨0,i,.cond i o cc ht0 (.inl ⟨rfl,rfl⟩),by rw[z];rfl,2,rfl,rfl⟩
     . exact⟨1,o,.cond i o cc ht0 (.inr ⟨rfl,rfl⟩),by rw[z];rfl,3,rfl,rfl⟩
   . rw[if_neg (by rw[decide_eq_false (fun z=>nwi (V.str.inj z))];exact Af)]
     exact⟨0,i,.loop cc dd ht0 rfl,by rw[Int.zero_mul];rfl,3,rfl,rfl⟩
 obtain⟨j,es2,es3⟩:=es2
 refine ak (a:=tAsg _ _) fun E5 hE5 _ _=>?_
 refine⟨_,rfl,_,rfl,l,_,_,.ref t,rfl,rfl,SqL.of hL4,atd,t,_,0,_,rfl,rfl,SqT.of t4,at0,rfl,_,rfl,_,rfl,_,_,rfl,rfl,(show CDiv _ 2 from⟨by decide,by decide⟩),_,_,rfl,rfl,(show (0:Int)<2 by decide),_,_,rfl,rfl,.inr ⟨by omega,by omega⟩,?_⟩
 dsimp only
 rw[es1]
 refine hE5 [some (.ref bd),some (.int n2),some (.ref l),some (.ref p3),some (.int (k:Int)),some (.int (s:Int))] _ ?_
 clear hE5
 refine ak (a:=tAsg _ _) fun E6 hE6 _ _=>?_
 refine⟨_,rfl,_,rfl,(show 1<=sizeLine by decide),fun u5 hu5=>?_⟩
 have s5:=ad hu5 (.tup [.int (s:Int)])
 have k5:(upd G4 u5 (.tup [.int (s:Int)])) u5=some (.tup [.int (s:Int)]):=aa
 generalize upd G4 u5 (.tup [.int (s:Int)])=G5 at s5 k5 |-
 refine⟨p3,u5,_,_,rfl,rfl,s5.seqT hp4,SqT.of k5,bn (by rw[Ac,Ag,cm];simp;omega),fun p6 G6 e6 hp6=>?_⟩
 have sG6:=(sG4.trans s5).trans e6
 have hp6:SqT K G6 p6 ((flat (pp++[(k,s)])).map V.int):=by
   rw[gy]
   simpa [flat] using hp6
 refine hE6 [some (.ref bd),some (.int n2),some (.ref l),some (.ref p6),some (.int (k:Int)),some (.int (s:Int))] _ ?_
 clear hE6
 refine ak (a:=tAsg _ _) fun E7 hE7 _ _=>?_
 refine⟨_,rfl,_,rfl,l,_,_,.ref t,rfl,rfl,SqL.of (sG6 _ _ hl),atd,_,rfl,_,_,rfl,rfl,(show 2<=sizeLine by decide),fun u7 hu7=>?_⟩
 have s7:=ad hu7 (.lst [V.int 3,V.int (2+(s:Int))])
 have k7:(upd G6 u7 (.lst [V.int 3,V.int (2+(s:Int))])) u7=some (.lst [V.int 3,V.int (2+(s:Int))]):=aa
 have sG7:=sG6.trans s7
 refine⟨_,rfl,_,rfl,l,_,_,.ref t,rfl,rfl,SqL.of (sG7 _ _ hl),atd,t,_,0,_,rfl,rfl,SqT.of (sG7 _ _ ht0),at0,rfl,_,rfl,u7,_,_,_,rfl,rfl,SqL.of k7,es2,t,_,_,_,rfl,rfl,SqT.of (sG7 _ _ ht0),c8 es3,?_⟩
 have hp7:=s7.seqT hp6
 dsimp only
 generalize upd G6 u7 (.lst [V.int 3,V.int (2+(s:Int))])=G7 at sG7 hp7 |-
 refine hE7 [some (.ref bd),some (.int n2),some (.ref x),some (.ref p6),some (.int (k:Int)),some (.int (s:Int))] _ ?_
 clear hE7
 obtain⟨fs,f1,f2⟩:=ja hx hsd
 refine⟨_,rfl,_,_,rfl,rfl,(show CDiv _ 4 from⟨by decide,by decide⟩),?_⟩
 exact⟨_,x,p6,pp++[(k,s)],fs,_,_,rfl,sG7,hp7,hf.app ⟨ts,t,x,hl,ht,hsd,rfl⟩,f2,a04 hsub hd f1,by rw[Ag];rw[A0] at hlen;simp;omega⟩
abbrev B (m:Nat):List Nat:=IA m 30
noncomputable def ie (xs r:List Str):Prop:=∃f x y:Str,r=[f,x,y]/\(f = "is" \/ f = "not")/\x∈xs/\y∈xs++[("nil" : Str)]
noncomputable def DG (xs:List Str):Deed->Prop
 | .plain (.row r)=>∃x y:Str,r=[("set" : Str),x,y]/\x∈xs/\y∈xs++[("nil" : Str)]
 | .plain (.call _ _ _)=>False
 | .cond r _ _=>ie xs r
 | .loop r F P _=>ie xs r/\F=[]/\P=[]
structure Gd (xs:List Str) (ds:List Deed) (n:Nat):Prop where
 len:∀bs,(allL bs ds).length<=n
 ok:∀bs,∀d∈allL bs ds,DG xs d
theorem xi:∀bs,allL bs []=[]
 | []=>rfl
 | _::_=>rfl
theorem Gd.nil (xs:List Str):Gd xs [] 0:=⟨fun bs=>by rw[xi];exact Ah _,fun bs d hd=>by rw[xi] at hd;cases hd⟩
theorem Gd.app {xs:List Str}{ds es:List Deed}{m n:Nat}(h:Gd xs ds m) (g:Gd xs es n):Gd xs (ds++es) (m+n):=by
 have e:∀bs,allL bs (ds++es)=allL bs ds++allL bs es:=fun bs=>by
   cases bs with
   | nil=>rfl
   | cons b bs=>exact Ci ..
 refine⟨fun bs=>?_,fun bs d hd=>?_⟩
 . rw[e,Ag];exact IE (h.len bs) (g.len bs)
 . rw[e] at hd
   rcases As.mp hd with z|z
   . exact h.ok bs d z
   . exact g.ok bs d z
theorem Gd.one {xs:List Str}{d:Deed}{n:Nat}(hd:DG xs d) (hl:∀bs,((innL d).flatMap (allL bs)).length<=n) (ho:∀bs,∀e∈(innL d).flatMap (allL bs),DG xs e):Gd xs [d] (n+1):=by
 refine⟨fun bs=>?_,fun bs e he=>?_⟩
 . cases bs with
   | nil=>exact AG _
   | cons b bs =>
     show ([d].flatMap (allD (allL bs))).length<=n+1
     rw[Bw]
     exact FI (hl bs)
 . cases bs with
   | nil=>cases he
   | cons b bs =>
     have he':e∈[d].flatMap (allD (allL bs)):=he
     rw[Bw] at he'
     rcases Al.mp he' with rfl|z
     . exact hd
     . exact ho bs e z
theorem Gd.cond {xs:List Str}{r:List Str}{a b:List Deed}{m n:Nat}(hr:ie xs r) (ha:Gd xs a m) (hb:Gd xs b n):Gd xs [.cond r a b] (m+n+1):=by
 refine Gd.one hr (fun bs=>?_) (fun bs e he=>?_)
 . show ([a,b].flatMap (allL bs)).length<=_
   rw[Ea,Bw,Ag]
   exact IE (ha.len bs) (hb.len bs)
 . have he':e∈[a,b].flatMap (allL bs):=he
   rw[Ea,Bw] at he'
   rcases As.mp he' with z|z
   . exact ha.ok bs e z
   . exact hb.ok bs e z
theorem Gd.loop {xs:List Str}{r:List Str}{a:List Deed}{m:Nat}(hr:ie xs r) (ha:Gd xs a m):Gd xs [.loop r [] [] a] (m+1):=by
 refine Gd.one (d:=.loop r [] [] a) ⟨hr,rfl,rfl⟩ (fun bs=>?_) (fun bs e he=>?_)
 . show ([a].flatMap (allL bs)).length<=_
   rw[Bw];exact ha.len bs
 . have he':e∈[a].flatMap (allL bs):=he
   rw[Bw] at he'
   exact ha.ok bs e he'
theorem Gd.mono {xs:List Str}{ds:List Deed}{m n:Nat}(h:Gd xs ds m) (hn:m<=n):Gd xs ds n:=⟨fun bs=>Ax (h.len bs) hn,h.ok⟩
theorem xg:∀ds:List Deed,(ds.flatMap (allD (allL []))).length=ds.length
 | []=>rfl
 | d::ds=>by
   rw[Ea,Ag,xg ds,A0]
   have:allD (allL []) d=[d]:=by
     unfold allD
     cases d<;>rfl
   rw[this,AX];omega
theorem Gd.short {xs:List Str}{ds:List Deed}{n:Nat}(h:Gd xs ds n):ds.length<=n:=by
 have:=h.len [0]
 have e:(allL [0] ds).length=ds.length:=xg ds
 omega
theorem yu:∀(p:Pre) (ds es:List Deed) (i:Nat) (d:Deed),subL ds p=some es->es[i]? = some d->d∈allL (B (p.length+1)) ds
 | [],ds,es,i,d,h,hd=>by
   cases h
   exact Bh.mpr ⟨d,AQ hd,Aj⟩
 | (k,s)::p,ds,es,i,d,h,hd=>by
   unfold subL at h
   cases h1:ds[k]? with
   | none=>rw[h1] at h;cases h
   | some d0 =>
     rw[h1] at h
     replace h:(subD d0 s).bind (fun es=>subL es p)=some es:=h
     cases h2:subD d0 s with
     | none=>rw[h2] at h;cases h
     | some es0 =>
       rw[h2] at h
       have ih:=yu p es0 es i d h hd
       refine Bh.mpr ⟨d0,AQ h1,Ao _ (Bh.mpr ⟨es0,?_,ih⟩)⟩
       cases d0 with
       | plain q=>cases h2
       | cond r a b =>
         match s,h2 with
         | 0,h2=>cases h2;exact Aj
         | 1,h2=>cases h2;exact Ao _ Aj
       | loop r F P a =>
         match s,h2 with
         | 0,h2=>cases h2;exact Aj
structure Bk where
 ce:Addr
 a:Addr
 b:Addr
 wd:Str
 cd:V
 na:Nat
 nb:Nat
noncomputable def LsAt (K:Ab) (G H:Hp) (xs:List Str) (m:Nat) (a:Addr) (n:Nat):Prop:=∃(ts:List Addr) (ds:List Deed),H a=some (.lst (ts.map V.ref))/\Paired (DeedX K G (ListX K G (B m))) ts ds/\Gd xs ds n
structure BkAt (K:Ab) (G H:Hp) (xs:List Str) (m:Nat) (c:Bk):Prop where
 hc:H c.ce=some (.lst [.str c.wd,c.cd,.ref c.a,.ref c.b])
 ha:LsAt K G H xs m c.a c.na
 hb:LsAt K G H xs m c.b c.nb
noncomputable def CdAt (G:Hp) (xs:List Str) (v:V):Prop:=∃(c:Addr) (r:List Str),v=.ref c/\G c=some (.tup (r.map V.str))/\ie xs r
noncomputable def StkAt (K:Ab) (G H:Hp) (xs:List Str):List Bk->Prop
 | []=>True
 | c::r=>BkAt K G H xs (4 - r.length) c/\(r≠[]->CdAt G xs c.cd)/\StkAt K G H xs r
noncomputable def opn (cs:List Bk):List Addr:=cs.flatMap fun c=>[c.ce,c.a,c.b]
noncomputable def cntB (cs:List Bk):Nat:=(cs.map fun c=>c.na+c.nb+1).sum
structure BB (K:Ab) (H0 H:Hp) (xs:List Str) (wa:Addr) (cs:List Bk) (n:Nat):Prop where
 e:Same H0 H
 nd:(wa::opn cs).Nodup
 fr:∀c∈wa::opn cs,H0 c=none
 w:H wa=some (.lst ((cs.map fun c=>V.ref c.ce).reverse))
 st:StkAt K (rm (fun c=>c∈wa::opn cs) H) H xs cs
 low:cs.length<=5
 cnt:cntB cs<=n+1
theorem LsAt.same {K:Ab}{G G' H H':Hp}{xs:List Str}{m:Nat}{a:Addr}{n:Nat}(h:LsAt K G H xs m a n) (e:Same G G') (k:∀o,H a=some o->H' a=some o):LsAt K G' H' xs m a n:=by
 obtain⟨ts,ds,h1,h2,h3⟩:=h
 exact⟨ts,ds,k _ h1,Paired.mapP h2 fun _ _ z=>z.same e fun _ _ y=>y.same e,h3⟩
theorem de {c:Bk}{r:List Bk}:opn (c::r)=c.ce::c.a::c.b::opn r:=rfl
theorem StkAt.same {K:Ab}{G G' H H':Hp}{xs:List Str}(e:Same G G'):∀{cs:List Bk},StkAt K G H xs cs->(∀a∈opn cs,∀o,H a=some o->H' a=some o)->StkAt K G' H' xs cs
 | [],_,_=>trivial
 | c::r,⟨⟨hc,ha,hb⟩,hd,h⟩,k=>by
   rw[de] at k
   refine⟨⟨k _ Aj _ hc,ha.same e (k _ (by simp)),hb.same e (k _ (by simp))⟩,fun z=>?_,h.same e fun a ha=>k a (by simp[ha])⟩
   obtain⟨c,r,h1,h2,h3⟩:=hd z
   exact⟨c,r,h1,e _ _ h2,h3⟩
variable {K:Ab}{H0 H H1:Hp}{xs:List Str}{wa:Addr}{cs r:List Bk}{c b:Bk}{n:Nat}
theorem BB.same (Z:BB K H0 H xs wa cs n) (e:Same H H1):BB K H0 H1 xs wa cs n :=
 ⟨Z.e.trans e,Z.nd,Z.fr,e _ _ Z.w,Z.st.same (cq e) fun _ _ o h=>e _ _ h,Z.low,Z.cnt⟩
theorem BB.mono {m:Nat}(Z:BB K H0 H xs wa cs n) (h:n<=m):BB K H0 H xs wa cs m:=⟨Z.e,Z.nd,Z.fr,Z.w,Z.st,Z.low,Ax Z.cnt (FI h)⟩
theorem BB.last (Z:BB K H0 H xs wa (c::r) n):H wa=some (.lst ((r.map fun c=>V.ref c.ce).reverse++[V.ref c.ce])):=by rw[Z.w,AA,CS]
theorem BB.hc (Z:BB K H0 H xs wa (c::r) n):H c.ce=some (.lst [.str c.wd,c.cd,.ref c.a,.ref c.b]):=Z.st.1.hc
theorem BB.off (Z:BB K H0 H xs wa (c::r) n):wa≠c.ce/\wa≠c.a/\wa≠c.b/\c.ce≠c.a/\c.ce≠c.b/\c.a≠c.b/\c.ce∉opn r/\c.a∉opn r/\c.b∉opn r/\wa∉opn r:=by
 have nd:=Z.nd
 rw[de] at nd
 simp only[Bb,Al,not_or] at nd
 obtain⟨⟨h1,h2,h3,h4⟩,⟨h5,h6,h7⟩,⟨h8,h9⟩,h10,_⟩:=nd
 exact⟨h1,h2,h3,h5,h6,h8,h7,h9,h10,h4⟩
theorem BB.word (Z:BB K H0 H xs wa (c::r) n) (wd:Str):BB K H0 (upd H c.ce (.lst [.str wd,c.cd,.ref c.a,.ref c.b])) xs wa ({ c with wd:=wd }::r) n:=by
 obtain⟨o1,o2,o3,o4,o5,o6,o7,o8,o9,o10⟩:=Z.off
 have hX:c.ce∈wa::opn (c::r):=by rw[de];simp
 have rr:=me (X:=fun x=>x∈wa::opn (c::r)) (H:=H) (a:=c.ce) (o:=.lst [.str wd,c.cd,.ref c.a,.ref c.b]) hX
 obtain⟨⟨hc,ha,hb⟩,hd,hs⟩:=Z.st
 refine⟨fun x o h=>by rw[ah (ao h (Z.fr _ hX))];exact Z.e _ _ h,Z.nd,Z.fr,by rw[ah o1];exact Z.w,?_,Z.low,Z.cnt⟩
 show StkAt K (rm (fun x=>x∈wa::opn (c::r)) _) _ xs _
 rw[rr]
 exact⟨⟨aa,ha.same (Same.refl _) fun o h=>by rw[ah (AO o4)];exact h,hb.same (Same.refl _) fun o h=>by rw[ah (AO o5)];exact h⟩,hd,hs.same (Same.refl _) fun a ha o h=>by rw[ah (fun z=>o7 (by rw[<- z];exact ha))];exact h⟩
theorem BB.appA (Z:BB K H0 H xs wa (c::r) n) {ts:List Addr}{t:Addr}{d:Deed}{k:Nat}(hts:H c.a=some (.lst (ts.map V.ref))) (ht:DeedX K (rm (fun x=>x∈wa::opn (c::r)) H) (ListX K (rm (fun x=>x∈wa::opn (c::r)) H) (B (4 - r.length))) t d) (hg:Gd xs [d] k):BB K H0 (upd H c.a (.lst (ts.map V.ref++[.ref t]))) xs wa ({ c with na:=c.na+k }::r) (n+k):=by
 obtain⟨o1,o2,o3,o4,o5,o6,o7,o8,o9,o10⟩:=Z.off
 have hX:c.a∈wa::opn (c::r):=by rw[de];simp
 have rr:=me (X:=fun x=>x∈wa::opn (c::r)) (H:=H) (a:=c.a) (o:=.lst (ts.map V.ref++[.ref t])) hX
 obtain⟨⟨hc,ha,hb⟩,hd,hs⟩:=Z.st
 have cnt:=Z.cnt
 refine⟨fun x o h=>by rw[ah (ao h (Z.fr _ hX))];exact Z.e _ _ h,Z.nd,Z.fr,by rw[ah o2];exact Z.w,?_,Z.low,?_⟩
 . show StkAt K (rm (fun x=>x∈wa::opn (c::r)) _) _ xs _
   rw[rr]
   refine⟨⟨by rw[ah o4];exact hc,?_,hb.same (Same.refl _) fun o h=>by rw[ah (AO o6)];exact h⟩,hd,hs.same (Same.refl _) fun a ha o h=>by rw[ah (fun z=>o8 (by rw[<- z];exact ha))];exact h⟩
   obtain⟨ts',ds,h1,h2,h3⟩:=ha
   have e:=fe hts h1
   subst e
   exact⟨ts++[t],ds++[d],by rw[aa,AB];rfl,Paired.snocP h2 ht,h3.app hg⟩
 . unfold cntB at cnt |-
   rw[AA,Cy] at cnt |-
   dsimp only at cnt |-
   omega
theorem BB.appB (Z:BB K H0 H xs wa (c::r) n) {ts:List Addr}{t:Addr}{d:Deed}{k:Nat}(hts:H c.b=some (.lst (ts.map V.ref))) (ht:DeedX K (rm (fun x=>x∈wa::opn (c::r)) H) (ListX K (rm (fun x=>x∈wa::opn (c::r)) H) (B (4 - r.length))) t d) (hg:Gd xs [d] k):BB K H0 (upd H c.b (.lst (ts.map V.ref++[.ref t]))) xs wa ({ c with nb:=c.nb+k }::r) (n+k):=by
 obtain⟨o1,o2,o3,o4,o5,o6,o7,o8,o9,o10⟩:=Z.off
 have hX:c.b∈wa::opn (c::r):=by rw[de];simp
 have rr:=me (X:=fun x=>x∈wa::opn (c::r)) (H:=H) (a:=c.b) (o:=.lst (ts.map V.ref++[.ref t])) hX
 obtain⟨⟨hc,ha,hb⟩,hd,hs⟩:=Z.st
 have cnt:=Z.cnt
 refine⟨fun x o h=>by rw[ah (ao h (Z.fr _ hX))];exact Z.e _ _ h,Z.nd,Z.fr,by rw[ah o3];exact Z.w,?_,Z.low,?_⟩
 . show StkAt K (rm (fun x=>x∈wa::opn (c::r)) _) _ xs _
   rw[rr]
   refine⟨⟨by rw[ah o5];exact hc,ha.same (Same.refl _) fun o h=>by rw[ah o6];exact h,?_⟩,hd,hs.same (Same.refl _) fun a ha o h=>by rw[ah (fun z=>o9 (by rw[<- z];exact ha))];exact h⟩
   obtain⟨ts',ds,h1,h2,h3⟩:=hb
   have e:=fe hts h1
   subst e
   exact⟨ts++[t],ds++[d],by rw[aa,AB];rfl,Paired.snocP h2 ht,h3.app hg⟩
 . unfold cntB at cnt |-
   rw[AA,Cy] at cnt |-
   dsimp only at cnt |-
   omega
theorem BB.pop (Z:BB K H0 H xs wa (c::b::r) n) (hn:n<=30) (h':Hp) (hh:h'=upd H wa (.lst (((b::r).map fun c=>V.ref c.ce).reverse))):∃m k,m+k=n/\c.na+c.nb+1=k/\BB K H0 h' xs wa (b::r) m/\h' c.ce=some (.lst [.str c.wd,c.cd,.ref c.a,.ref c.b])/\(∃da,ListX K (rm (fun x=>x∈wa::opn (b::r)) h') (B (4 - r.length)) c.a da/\Gd xs da c.na)/\(∃db,ListX K (rm (fun x=>x∈wa::opn (b::r)) h') (B (4 - r.length)) c.b db/\Gd xs db c.nb)/\CdAt (rm (fun x=>x∈wa::opn (b::r)) h') xs c.cd:=by
 subst hh
 obtain⟨o1,o2,o3,o4,o5,o6,o7,o8,o9,o10⟩:=Z.off
 have nd:=Z.nd
 have low:=Z.low
 rw[A0,A0] at low
 have cnt:=Z.cnt
 unfold cntB at cnt
 rw[AA,Cy,AA,Cy] at cnt
 obtain⟨⟨hc,ha,hb⟩,hd,hs⟩:=Z.st
 have e1:Same (rm (fun x=>x∈wa::opn (c::b::r)) H) (rm (fun x=>x∈wa::opn (b::r)) H):=a4v fun x hx=>by
   rw[de]
   rcases Al.mp hx with rfl|z
   . exact Aj
   . exact Ao _ (by simp[z])
 have rr:=me (X:=fun x=>x∈wa::opn (b::r)) (H:=H) (a:=wa) (o:=.lst (((b::r).map fun c=>V.ref c.ce).reverse)) Aj
 have lx:∀{a:Addr} {k:Nat},LsAt K (rm (fun x=>x∈wa::opn (c::b::r)) H) H xs (4 - (b::r).length) a k->wa≠a->a∉opn (b::r)->k<=30->∃da,ListX K (rm (fun x=>x∈wa::opn (b::r)) H) (B (4 - r.length)) a da/\Gd xs da k:=fun {a k} h n1 n2 hk=>by
   obtain⟨ts,ds,h1,h2,h3⟩:=h
   refine⟨ds,?_,h3⟩
   rw[show 4 - r.length=(4 - (b::r).length)+1 by rw[A0];omega]
   refine⟨ts,?_,Paired.mapP h2 fun _ _ z=>z.same e1 fun _ _ y=>y.same e1,?_⟩
   . rw[cb (fun z=>?_)]
     . exact h1
     . rcases Al.mp z with y|y
       . exact n1 y.symm
       . exact n2 y
   . rw[AD h2];exact Ax h3.short hk
 refine⟨n - (c.na+c.nb+1),c.na+c.nb+1,by omega,rfl,⟨fun x o h=>by rw[ah (ao h (Z.fr _ Aj))];exact Z.e _ _ h,?_,fun x hx=>Z.fr x ?_,aa,?_,by rw[A0];omega,?_⟩,?_,?_,?_,?_⟩
 . rw[de] at nd
   simp only[Bb,Al,not_or] at nd |-
   exact⟨nd.1.2.2.2,nd.2.2.2.2⟩
 . rw[de]
   rcases Al.mp hx with rfl|z
   . exact Aj
   . exact Ao _ (by simp[z])
 . rw[rr]
   exact hs.same e1 fun a ha o h=>by rw[ah (fun z=>o10 (by rw[<- z];exact ha))];exact h
 . unfold cntB
   rw[AA,Cy]
   omega
 . rw[ah (AO o1)];exact hc
 . rw[rr];exact lx ha o2 o8 (by omega)
 . rw[rr];exact lx hb o3 o9 (by omega)
 . rw[rr]
   obtain⟨cc,r',h1,h2,h3⟩:=hd (by simp)
   exact⟨cc,r',h1,e1 _ _ h2,h3⟩
theorem BB.live (Z:BB K H0 H xs wa cs n):∀x∈wa::opn cs,∃o,H x=some o:=fun x hx=>by
 rcases Al.mp hx with rfl|z
 . exact⟨_,Z.w⟩
 . have key:∀{cs:List Bk} {G:Hp},StkAt K G H xs cs->∀x∈opn cs,∃o,H x=some o:=by
     intro cs
     induction cs with
     | nil=>intro G _ x hx;cases hx
     | cons c r ih =>
       intro G h x hx
       obtain⟨⟨hc,⟨_,_,ha,_⟩,⟨_,_,hb,_⟩⟩,_,hs⟩:=h
       rw[de] at hx
       simp only[Al] at hx
       rcases hx with rfl|rfl|rfl|hx
       . exact⟨_,hc⟩
       . exact⟨_,ha⟩
       . exact⟨_,hb⟩
       . exact ih hs x hx
   exact key Z.st x z
theorem BB.new (Z:BB K H0 H xs wa cs n) {y:Addr}(h:H y=none):y∉wa::opn cs:=fun z=>by
 obtain⟨o,ho⟩:=Z.live y z
 rw[h] at ho;cases ho
theorem BB.push (Z:BB K H0 H xs wa cs n) (e:Same H H1) (hl:cs.length<5) (hne:cs≠[]) {ce a b cd:Addr}{wd:Str}{rw_:List Str}(nc:H ce=none) (na:H a=none) (nb:H b=none) (ncd:H cd=none) (d1:ce≠a) (d2:ce≠b) (d3:a≠b) (hcd:H1 cd=some (.tup (rw_.map V.str))) (hcd':cd≠ce/\cd≠a/\cd≠b) (hok:ie xs rw_) (hce:H1 ce=some (.lst [.str wd,.ref cd,.ref a,.ref b])) (ha:H1 a=some (.lst [])) (hb:H1 b=some (.lst [])) :
   BB K H0 (upd H1 wa (.lst ((cs.map fun c=>V.ref c.ce).reverse++[.ref ce]))) xs wa (⟨ce,a,b,wd,.ref cd,0,0⟩::cs) (n+1):=by
 have new:∀{y:Addr},H y=none->y∉wa::opn cs:=fun h=>Z.new h
 have n1:=new nc
 have n2:=new na
 have n3:=new nb
 have n4:=new ncd
 have rr:=me (X:=fun x=>x∈wa::opn (⟨ce,a,b,wd,.ref cd,0,0⟩::cs)) (H:=H1) (a:=wa) (o:=.lst ((cs.map fun c=>V.ref c.ce).reverse++[.ref ce])) Aj
 have e1:Same (rm (fun x=>x∈wa::opn cs) H) (rm (fun x=>x∈wa::opn (⟨ce,a,b,wd,.ref cd,0,0⟩::cs)) H1):=fun x o hx=>by
   obtain⟨g1,g2⟩:=gq hx
   rw[cb (fun y=>?_)]
   . exact e _ _ g2
   . rw[de] at y
     simp only[Al] at y
     rcases y with y|y|y|y|y
     . exact g1 (by rw[y];exact Aj)
     . rw[y,nc] at g2;cases g2
     . rw[y,na] at g2;cases g2
     . rw[y,nb] at g2;cases g2
     . exact g1 (Ao _ y)
 have m:∀{y:Addr},y∉wa::opn cs->y≠wa/\y∉opn cs:=fun {y} h=>⟨fun z=>h (by rw[z];exact Aj),fun z=>h (Ao _ z)⟩
 have emp:∀{G:Hp} {k:Nat} {x:Addr},H1 x=some (.lst [])->x≠wa->LsAt K G (upd H1 wa (.lst ((cs.map fun c=>V.ref c.ce).reverse++[.ref ce]))) xs k x 0:=fun h z=>⟨[],[],by rw[ah z];exact h,.nil,.nil xs⟩
 have cnt:=Z.cnt
 refine⟨fun x o h=>by rw[ah (ao h (Z.fr _ Aj))];exact e _ _ (Z.e _ _ h),?_,fun x hx=>?_,by rw[aa,AA,CS],?_,by rw[A0];omega,?_⟩
 . have nd:=Z.nd
   rw[de]
   simp only[Bb,Al,not_or] at nd n1 n2 n3 |-
   exact⟨⟨AO n1.1,AO n2.1,AO n3.1,nd.1⟩,⟨d1,d2,n1.2⟩,⟨d3,n2.2⟩,n3.2,nd.2⟩
 . rw[de] at hx
   simp only[Al] at hx
   rcases hx with rfl|rfl|rfl|rfl|hx
   . exact Z.fr _ Aj
   . exact Z.e.free nc
   . exact Z.e.free na
   . exact Z.e.free nb
   . exact Z.fr x (Ao _ hx)
 . rw[rr]
   refine⟨⟨by rw[ah (m n1).1];exact hce,emp ha (m n2).1,emp hb (m n3).1⟩,fun _=>⟨cd,rw_,rfl,?_,hok⟩,Z.st.same e1 fun x hx o h=>?_⟩
   . rw[cb (fun y=>?_)]
     . exact hcd
     . rw[de] at y
       simp only[Al] at y
       rcases y with y|y|y|y|y
       . exact (m n4).1 y
       . exact hcd'.1 y
       . exact hcd'.2.1 y
       . exact hcd'.2.2 y
       . exact (m n4).2 y
   . have nd:=Z.nd
     rw[ah (fun z=>(Bb.mp nd).1 (by rw[<- z];exact hx))]
     exact e _ _ h
 . unfold cntB at cnt |-
   rw[AA,Cy]
   dsimp only
   omega
noncomputable abbrev sw:Stmt:=top 38
inductive spClosed (K:Ab) (vs:List V) (H:Hp) (Q:VK) (E:XK):Prop
 | mk (H0:Hp) (xs:List Str) (wa:Addr) (c b:Bk) (r:List Bk) (n:Nat) (h0:vs=[.ref wa]) (hS:BB K H0 H xs wa (c::b::r) n) (hn:n<=28) (hx:∀y∈xs,Ok y) (q:∀H' b',BB K H0 H' xs wa (b'::r) n->Q .non H'):spClosed K vs H Q E
theorem scClosed:FnScope ["_law_blocks","_law_word","_law_condition","_law_first","_law_second","_law_deed"] ["_law_blocks"] (au sw):=⟨rfl,rfl,rfl,by decide +kernel,rfl,by decide +kernel,by decide +kernel⟩
theorem a4c (C:Con K mg w) (F:Fun K "_law_closed" "_law_closed" sw f fd):FnOk P w K mg base CX0 1 f fd ["_law_blocks"] (spClosed K):=by
 refine F.okQ scClosed (fun vs H Q E h=>?_) (fun cdv A outer s0 H vs Q E hr h=>?_)
 . obtain⟨_,_,_,_,_,_,_,rfl,_⟩:=h;rfl
 obtain⟨H0,xs,wa,c,b,r,n,rfl,Z,hn,hx,q⟩:=h
 have nd:=scClosed.nd
 have hu1:=dn hr
 refine⟨_,ae (jt (vc AR En Eo wk (qv 0)) (sf (K:=K) rfl (bo (i:=1) nd rfl (Or.inl rfl)) (bo (i:=2) nd rfl (Or.inl rfl)) (bo (i:=3) nd rfl (Or.inl rfl)) (bo (i:=4) nd rfl (Or.inl rfl))))
   (ae (ar (i:=5) nd rfl (Or.inl rfl) (cf (c6 (aj (qv 2) (jv (fh a0 (fh a0 a0)) (aj (qv 3) a0))))))
   (ae (bg (aw qz (qv 1) b6 (av _)) (ai (ar (i:=5) nd rfl (Or.inl rfl) (cf (c6 (aj (qv 2) (aj (qv 3) (aj (qv 4) a0))))))) bq)
   (ai (bp (fq (K:=K) rfl AR BL BM em (af (ixK (K:=K) rfl) (af (ixK (K:=K) rfl) (qv 0) (c7 bu ab) (fun _ _=>rfl)) (af (ixK (K:=K) rfl) (bw (b9 (b9 a0))) (be en rfl C.int BN (bv (cz bb (af (ixK (K:=K) rfl) (af (ixK (K:=K) rfl) (qv 0) (c7 bu ab) (fun _ _=>rfl)) ab (fun _ _=>rfl)) b6 (av _)) a0)) (fun _ _=>rfl)) (fun _ _=>rfl)) (aj (qv 5) a0)))))),?_⟩
 have low:=Z.low
 rw[A0,A0] at low
 have hla:(((b::r).map fun c=>V.ref c.ce).reverse++[V.ref c.ce])[(((b::r).map fun c=>V.ref c.ce).reverse++[V.ref c.ce]).length - 1]? = some (V.ref c.ce):=by
   rw[Ag,AX,HH];exact Dt
 refine ak (a:=tAsg _ _) fun D1 hD1 _ _=>?_
 refine⟨_,rfl,.inl ⟨rfl,_,SqL.of Z.last⟩,wa,_,_,rfl,rfl,Z.last,hla,?_⟩
 rw[Hg]
 obtain⟨m,k,hmk,hk,Z2,kc,⟨da,la,ga⟩,⟨db,lb,gb⟩,⟨cc,rr,hcd,kcc,okc⟩⟩:=Z.pop (Ax hn (by decide)) _ rfl
 generalize upd H wa (.lst (((b::r).map fun c=>V.ref c.ce).reverse))=G at Z2 kc la lb kcc |-
 refine⟨c.ce,_,rfl,SqL.of kc,rfl,_,_,rfl,_,_,rfl,_,_,rfl,_,_,rfl,rfl,?_⟩
 rw[hcd]
 refine hD1 [some (.ref wa),some (.str c.wd),some (.ref cc),some (.ref c.a),some (.ref c.b),none] _ ?_
 clear hD1
 obtain⟨f0,x0,y0,er,hf0,hx0,hy0⟩:=id okc
 have okr:∀y∈rr,Ok y:=fun y hy=>by
   rw[er] at hy
   simp only[Al,AN,or_false] at hy
   rcases hy with rfl|rfl|rfl
   . rcases hf0 with rfl|rfl
     . exact i7 _ (by simp)
     . exact i7 _ (by simp)
   . exact hx _ hx0
   . rcases As.mp hy0 with z|z
     . exact hx _ z
     . rw[Au.mp z];exact i7 _ (by simp)
 have fin:∀(G':Hp) (t:Addr) (d:Deed),BB K H0 G' xs wa (b::r) m->DeedX K (rm (fun x=>x∈wa::opn (b::r)) G') (ListX K (rm (fun x=>x∈wa::opn (b::r)) G') (B (4 - r.length))) t d->Gd xs [d] k->(j4
         (tBM K "list" se
           (tOp (rIxL K) (tOp (rIxL K) (tVar 0) (tUn (rU fun i=>V.int (-i)) (tC (V.int 1))))
             (tOp (rIxL K) (tLst (br (tC (V.int 2)) (br (tC (V.int 3)) tNil)))
               (tCB (fun xs H Q=>∃b,xs=[V.bl b]/\Q (V.int (if b=true then 1 else 0)) H)
                 (br
                   (tOp rEq
                     (tOp (rIxL K) (tOp (rIxL K) (tVar 0) (tUn (rU fun i=>V.int (-i)) (tC (V.int 1))))
                       (tC (V.int 0)))
                     (tC (V.str (Bq "else"))))
                   tNil))))
           (br (tVar 5) tNil))) { nx:=fun x H'=>Q V.non H',rt:=Q } [some (.ref wa),some (.str c.wd),some (.ref cc),some (.ref c.a),some (.ref c.b),some (.ref t)] G':=fun G' t d Y hd hg=>by
   refine⟨_,rfl,_,rfl,wa,_,_,_,rfl,rfl,SqL.of Y.last,bh,(show 2<=sizeLine by decide),fun u hu=>?_⟩
   have s1:=ad hu (.lst [V.int 2,V.int 3])
   have k1:(upd G' u (.lst [V.int 2,V.int 3])) u=some (.lst [V.int 2,V.int 3]):=aa
   generalize upd G' u (.lst [V.int 2,V.int 3])=G1 at s1 k1 |-
   have Y1:=Y.same s1
   have hd1:=hd.same (cq (X:=fun x=>x∈wa::opn (b::r)) s1) fun _ _ y=>y.same (cq s1)
   refine⟨_,rfl,_,rfl,wa,_,_,_,rfl,rfl,SqL.of Y1.last,bh,b.ce,_,0,_,rfl,rfl,SqL.of Y1.hc,at0,rfl,_,rfl,?_⟩
   obtain⟨⟨_,⟨tsa,dsa,ka,pa,gA⟩,⟨tsb,dsb,kb,pb,gB⟩⟩,_⟩:=Y1.st
   have cnt:=Y1.cnt
   unfold cntB at cnt
   rw[AA,Cy] at cnt
   have la':=AD pa
   have lb':=AD pb
   have sa:=gA.short
   have sb:=gB.short
   by_cases z:b.wd = "else"
   . rw[decide_eq_true (show V.str b.wd=V.str (Bq "else") from congrArg V.str z)]
     refine⟨u,_,1,_,rfl,rfl,SqL.of k1,rfl,b.ce,_,3,_,rfl,rfl,SqL.of Y1.hc,rfl,.inl ⟨rfl,_,SqL.of kb⟩,_,rfl,b.b,_,_,rfl,rfl,kb,cx (by rw[Ac];omega),?_⟩
     have:=Y1.appB kb hd1 hg
     rw[hmk] at this
     exact q _ _ this
   . rw[decide_eq_false (show ¬ V.str b.wd=V.str (Bq "else") from fun y=>z (V.str.inj y))]
     refine⟨u,_,0,_,rfl,rfl,SqL.of k1,rfl,b.ce,_,2,_,rfl,rfl,SqL.of Y1.hc,rfl,.inl ⟨rfl,_,SqL.of ka⟩,_,rfl,b.a,_,_,rfl,rfl,ka,cx (by rw[Ac];omega),?_⟩
     have:=Y1.appA ka hd1 hg
     rw[hmk] at this
     exact q _ _ this
 refine ak (a:=tAsg _ _) fun D2 hD2 _ _=>?_
 refine⟨_,rfl,(show 0<=sizeLine by decide),fun e1 he1=>⟨(show 0<=sizeLine by decide),fun e2 he2=>⟨(show 2<=sizeLine by decide),fun e3 he3=>⟨_,rfl,(show 4<=sizeLine by decide),fun e4 he4=>?_⟩⟩⟩⟩
 have s1:=ad he1 (.lst [])
 have k1:(upd G e1 (.lst [])) e1=some (.lst []):=aa
 generalize upd G e1 (.lst [])=G1 at s1 k1 he2 he3 he4 |-
 have s2:=ad he2 (.lst [])
 have k2:(upd G1 e2 (.lst [])) e2=some (.lst []):=aa
 generalize upd G1 e2 (.lst [])=G2 at s2 k2 he3 he4 |-
 have s3:=ad he3 (.tup [.ref e1,.ref e2])
 have k3:(upd G2 e3 (.tup [.ref e1,.ref e2])) e3=some (.tup [.ref e1,.ref e2]):=aa
 generalize upd G2 e3 (.tup [.ref e1,.ref e2])=G3 at s3 k3 he4 |-
 have s4:=ad he4 (.tup [.str "while",.ref cc,.ref e3,.ref c.a])
 have k4:(upd G3 e4 (.tup [.str "while",.ref cc,.ref e3,.ref c.a])) e4=some (.tup [.str "while",.ref cc,.ref e3,.ref c.a]):=aa
 dsimp only[ba]
 generalize upd G3 e4 (.tup [.str "while",.ref cc,.ref e3,.ref c.a])=G4 at s4 k4 |-
 have e12:=s1.trans s2
 have e13:=e12.trans s3
 have e04:=e13.trans s4
 refine hD2 [some (.ref wa),some (.str c.wd),some (.ref cc),some (.ref c.a),some (.ref c.b),some (.ref e4)] _ ?_
 clear hD2
 have Z4:=Z2.same e04
 have n1:=Z2.new he1
 have n2:=Z2.new (s1.free he2)
 have n3:=Z2.new (e12.free he3)
 have n4:=Z2.new (e13.free he4)
 have rs:=cq (X:=fun x=>x∈wa::opn (b::r)) e04
 refine ak (a:=tIfS _ _ _) fun D3 hD3 _ _=>?_
 refine⟨_,rfl,rfl,_,rfl,iteB (fun cw=>?_) (fun cw=>?_)⟩
 . refine⟨_,rfl,_,rfl,_,rfl,(show 4<=sizeLine by decide),fun e5 he5=>?_⟩
   have s5:=ad he5 (.tup [.str "if",.ref cc,.ref c.a,.ref c.b])
   have k5:(upd G4 e5 (.tup [.str "if",.ref cc,.ref c.a,.ref c.b])) e5=some (.tup [.str "if",.ref cc,.ref c.a,.ref c.b]):=aa
   dsimp only[ba]
   generalize upd G4 e5 (.tup [.str "if",.ref cc,.ref c.a,.ref c.b])=G5 at s5 k5 |-
   refine hD3 [some (.ref wa),some (.str c.wd),some (.ref cc),some (.ref c.a),some (.ref c.b),some (.ref e5)] _ ?_
   have n5:=Z4.new he5
   have rs5:=rs.trans (cq (X:=fun x=>x∈wa::opn (b::r)) s5)
   refine fin G5 e5 (.cond rr da db) (Z4.same s5) (.cond cc c.a c.b rr da db (by rw[cb n5];exact k5) (rs5 _ _ kcc) okr (la.same rs5) (lb.same rs5)) ?_
   rw[<- hk]
   exact Gd.cond okc ga gb
 . refine hD3 _ _ ?_
   refine fin G4 e4 (.loop rr [] [] da) Z4 (.loop cc e3 c.a e1 e2 rr [] [] da (by rw[cb n4];exact k4) (rs _ _ kcc) okr (by rw[cb n3];exact s4 _ _ k3) ⟨[],by rw[cb n1];exact (s2.trans (s3.trans s4)) _ _ k1,.nil⟩ ⟨[],by rw[cb n2];exact (s3.trans s4) _ _ k2,.nil⟩ (fun _ h=>by cases h) (fun _ h=>by cases h) (by decide) (by decide) (la.same rs)) ?_
   have:=Gd.loop okc ga
   exact this.mono (by omega)
end K51
namespace L2
open PySem PySem.Spec
theorem a5t {X:Cx}{a b c:Expr}{pos:Pos}{ta tb tc:TE}{op op':CmpOp}{r r':R2}(ho:OpR X (compareOp op) r) (ho':OpR X (compareOp op') r') (ha:QE X a ta) (hb:QE X b tb) (hc:QE X c tc) (hm:lastMarks [op,op'] [b,c]=false:=by with_unfolding_all rfl):QT X (.Compare a [op,op'] [b,c] pos) (nq (a3e r r' ta tb tc)):=⟨a5e ho ho' ha.run hb.run hc.run hm⟩
theorem q8 {t:TT}{a b:TS}{D:Ends}{σ:St}{H:Hp}(h:∀b':TS,(b D σ H->b' D σ H)->tIfS t a b' D σ H):tIfS t a b D σ H:=h b id
end L2
namespace K51
open PySem PySem.Spec L2 Mir
variable {P:Program}{w:World}{K:Ab}{mg:Str->Option Value}{base:Heap}{f g gS gN gA gW gI gL gF gO gT gB C fI CM CF fJ gD gR gU gH gM gE gC gK gP gX:Addr}{fd gd dS dN dA dW dI dL dF dO dT dB dD dR dU dH dM dE dC dK dP dX:FuncData}
noncomputable abbrev a0i:Stmt:=top 39
inductive spBody (K:Ab) (vs:List V) (H:Hp) (Q:VK) (E:XK):Prop
 | mk (ca ow ev:Addr) (ns:List Int) (os xs:List Str) (h0:vs=[.ref ca,.ref ow,.ref ev]) (h1:H ca=some (.lst (ns.map V.int))) (h2:ns.length<=28) (h3:H ow=some (.lst (os.map V.str))) (h4:os≠[]) (h5:∀y∈os,y∈xs) (h5':os.length<=6) (h6:H ev=some (.lst (xs.map V.str))) (h7:xs.length=6) (h8:∀y∈xs,bx y=true)
     (q:∀bd ds H',Same H H'->ListX K H' (B 5) bd ds->Gd xs ds 28->Q (.ref bd) H'):spBody K vs H Q E
theorem BB.start {K:Ab}{H H1:Hp}{xs:List Str}{wa ce a b:Addr}(e:Same H H1) (n0:H wa=none) (n1:H ce=none) (n2:H a=none) (n3:H b=none) (hnd:[wa,ce,a,b].Nodup) (kw:H1 wa=some (.lst [.ref ce])) (kc:H1 ce=some (.lst [.str "",.non,.ref a,.ref b])) (ka:H1 a=some (.lst [])) (kb:H1 b=some (.lst [])):BB K H H1 xs wa [⟨ce,a,b,"",.non,0,0⟩] 0:=by
 refine⟨e,hnd,fun c hc=>?_,kw,⟨⟨kc,⟨[],[],ka,.nil,.nil xs⟩,⟨[],[],kb,.nil,.nil xs⟩⟩,fun z=>absurd rfl z,trivial⟩,(by show 1<=5;decide),(by show 1<=1;decide)⟩
 have hc':c∈[wa,ce,a,b]:=hc
 simp only[Al,AN,or_false] at hc'
 rcases hc' with rfl|rfl|rfl|rfl<;>assumption
theorem scBody:FnScope ["_law_cells","_law_own","_law_every","_law_blocks","_law_cell","_law_digits","_law_way","_law_e","_law_x","_law_condition","_law_side"] ["_law_cells","_law_own","_law_every"] (au a0i):=⟨rfl,rfl,rfl,by decide +kernel,rfl,by decide +kernel,by decide +kernel⟩
theorem a8c (C:Con K mg w) (F:Fun K "_law_body" "_law_body" a0i f fd) (GF:FnOk P w K mg base CX0 2 gF dF ["_law_cell","_law_k"] ux) (cF:Cal K mg "_law_fed" gF dF ["_law_cell","_law_k"]) (GD:FnOk P w K mg base CX0 1 gD dD ["_law_digits","_law_many"] og) (cD:Cal K mg "_law_digit" gD dD ["_law_digits","_law_many"]) (GC:FnOk P w K mg base CX0 1 gC dC ["_law_blocks"] (spClosed K)) (cC:Cal K mg "_law_closed" gC dC ["_law_blocks"]):FnOk P w K mg base CX0 3 f fd ["_law_cells","_law_own","_law_every"] (spBody K):=by
 refine F.okQ scBody (fun vs H Q E h=>?_) (fun cdv A outer s0 H vs Q E hr h=>?_)
 . obtain⟨_,_,_,_,_,_,rfl,_⟩:=h;rfl
 obtain⟨ca,ow,ev,ns,os,xs,rfl,kca,hns,kow,hos,hox,hol,kev,hx6,hxn,q⟩:=h
 have nd:=scBody.nd
 have hu1:=dn hr
 have hr1:=hr.mono (j:=1) (by omega)
 refine⟨_,ae (ar (i:=3) nd rfl (Or.inl rfl) (bw (fh (c6 (bv gw (fh a0 (fh a0 a0)))) a0)))
   (ae (dv AH rfl (wb (K:=K) rfl (qv 0)) (bo (i:=4) nd rfl (Or.inl rfl)) (ae (ar (i:=5) nd rfl (Or.inl rfl) (aq GF hr rfl cF.name cF.keep cF.bind .nil ap (aj (qv 4) (b9 a0))))
   (ae (ar (i:=6) nd rfl (Or.inl rfl) (aq GD hr1 rfl cD.name cD.keep cD.bind .nil ap (aj (qv 5) (b9 a0))))
   (ae (ar (i:=7) nd rfl (Or.inl rfl) (af (ixK (K:=K) rfl) (ax ir (qv 2) (bw (c6 a0))) (aq GD hr1 rfl cD.name cD.keep cD.bind .nil ap (aj (qv 5) (dq (ax cg (bf (lenK (K:=K) rfl) rfl C.len AM (aj (qv 2) a0)) ab) a0))) (fun _ _=>rfl)))
   (ae (ar (i:=8) nd rfl (Or.inl rfl) (af (ixK (K:=K) rfl) (qv 1) (aq GD hr1 rfl cD.name cD.keep cD.bind .nil ap (aj (qv 5) (bi (bf (lenK (K:=K) rfl) rfl C.len AM (aj (qv 1) a0)) a0))) (fun _ _=>rfl)))
   (ae (ar (i:=9) nd rfl (Or.inl rfl) (cf (az (af (ixK (K:=K) rfl) (bw (c6 (c6 a0))) (aq GD hr1 rfl cD.name cD.keep cD.bind .nil ap (aj (qv 5) (b9 a0))) (fun _ _=>rfl)) (az (af (ixK (K:=K) rfl) (qv 2) (aq GD hr1 rfl cD.name cD.keep cD.bind .nil ap (aj (qv 5) (bi (bf (lenK (K:=K) rfl) rfl C.len AM (aj (qv 2) a0)) a0))) (fun _ _=>rfl)) (aj (qv 7) a0)))))
   (ai (bg (QW.qt (gu (aw ku (qv 6) ab (av _)) (g8 (aw ku (bf (lenK (K:=K) rfl) rfl C.len AM (aj (qv 3) a0)) ab (av _))))) (ai (bp (fq (K:=K) rfl AR BL BM em (qv 3) (fh (az (af (ixK (K:=K) rfl) (bw (c6 (c6 a0))) (ax et (qv 6) ab) (fun _ _=>rfl)) (aj (qv 9) (fh a0 (fh a0 a0)))) a0)))) (ai (bg (QW.qt (gu (aw bb (qv 6) ab (av _)) (g8 (aw bb (af (ixK (K:=K) rfl) (af (ixK (K:=K) rfl) (qv 3) (c7 bu ab) (fun _ _=>rfl)) ab (fun _ _=>rfl)) b6 (av _))))) (ai (jt b6 (wn (af (ixK (K:=K) rfl) (qv 3) (c7 bu ab) (fun _ _=>rfl)) ab i5))) (ai (bg (QW.qt (gu (a5t ku ku ab (qv 6) ab) (g8 (aw mx (bf (lenK (K:=K) rfl) rfl C.len AM (aj (qv 3) a0)) ab (av _))))) (ai (bp (aq GC hr1 rfl cC.name cC.keep cC.bind .nil ap (aj (qv 3) a0)))) (ae (ar (i:=10) nd rfl (Or.inl rfl) (af (ixK (K:=K) rfl) (bw (b9 (b9 a0))) (be en rfl C.int BN (bv (cz bb (af (ixK (K:=K) rfl) (af (ixK (K:=K) rfl) (qv 3) (c7 bu ab) (fun _ _=>rfl)) ab (fun _ _=>rfl)) b6 (av _)) a0)) (fun _ _=>rfl)))
   (ai (bp (fq (K:=K) rfl AR BL BM em (af (ixK (K:=K) rfl) (af (ixK (K:=K) rfl) (qv 3) (c7 bu ab) (fun _ _=>rfl)) (qv 10) (fun _ _=>rfl)) (jv (c6 (aj (qv 8) (aj (qv 7) a0))) a0)))))))))))))))))
   (ae (i3 AH (aw mx (bf (lenK (K:=K) rfl) rfl C.len AM (aj (qv 3) a0)) ab (av _)) (ai (bp (aq GC hr1 rfl cC.name cC.keep cC.bind .nil ap (aj (qv 3) a0)))))
   (ai (b5 (af (ixK (K:=K) rfl) (af (ixK (K:=K) rfl) (qv 3) ab (fun _ _=>rfl)) ab (fun _ _=>rfl)))))),?_⟩
 have okx:∀y∈xs,Ok y:=fun y hy=>ng (hxn y hy)
 refine ak (a:=tAsg _ _) fun D1 hD1 _ _=>?_
 refine⟨(show 0<=sizeLine by decide),fun a ha=>⟨(show 0<=sizeLine by decide),fun b hb=>⟨(show 4<=sizeLine by decide),fun ce hce=>⟨(show 1<=sizeLine by decide),fun wa hwa=>?_⟩⟩⟩⟩
 have s1:=ad ha (.lst [])
 have k1:(upd H a (.lst [])) a=some (.lst []):=aa
 generalize upd H a (.lst [])=H1 at s1 k1 hb hce hwa |-
 have s2:=ad hb (.lst [])
 have k2:(upd H1 b (.lst [])) b=some (.lst []):=aa
 generalize upd H1 b (.lst [])=H2 at s2 k2 hce hwa |-
 have s3:=ad hce (.lst [.str "",.non,.ref a,.ref b])
 have k3:(upd H2 ce (.lst [.str "",.non,.ref a,.ref b])) ce=some (.lst [.str "",.non,.ref a,.ref b]):=aa
 generalize upd H2 ce (.lst [.str "",.non,.ref a,.ref b])=H3 at s3 k3 hwa |-
 have s4:=ad hwa (.lst [.ref ce])
 have k4:(upd H3 wa (.lst [.ref ce])) wa=some (.lst [.ref ce]):=aa
 dsimp only[ba]
 generalize upd H3 wa (.lst [.ref ce])=H4 at s4 k4 |-
 have e12:=s1.trans s2
 have e13:=e12.trans s3
 have ne_:∀{G:Hp} {x y:Addr} {o:HO},G x=some o->G y=none->y≠x:=fun h1 h2 z=>by rw[z,h1] at h2;cases h2
 have nba:=ne_ k1 hb
 have nca:=ne_ (s2 _ _ k1) hce
 have ncb:=ne_ k2 hce
 have nwa:=ne_ (s3 _ _ (s2 _ _ k1)) hwa
 have nwb:=ne_ (s3 _ _ k2) hwa
 have nwc:=ne_ k3 hwa
 have Z0:BB K H H4 xs wa [⟨ce,a,b,"",.non,0,0⟩] 0:=BB.start (e13.trans s4) (e13.free hwa) (e12.free hce) ha (s1.free hb) (by simp[nwa,nwb,nwc,nca,ncb,AO nba]) k4 (s4 _ _ k3) ((s2.trans (s3.trans s4)) _ _ k1) ((s3.trans s4) _ _ k2)
 refine hD1 [some (.ref ca),some (.ref ow),some (.ref ev),some (.ref wa),none,none,none,none,none,none,none] _ ?_
 clear hD1 s1 s2 s3 s4 k1 k2 k3 k4 hb hce hwa e12 e13 nba nca ncb nwa nwb nwc
 refine ak (a:=tFor _ _ _) fun D2 hD2 _ _=>?_
 refine⟨_,rfl,ca,rfl,⟨_,SqL.of (Z0.e _ _ kca)⟩,?_⟩
 refine i8 (xs:=ns.map V.int) (fun i σ G=>∃(c:Bk) (r:List Bk) (z4 z5 z6 z7 z8 z9 z10:Option V),σ=[some (.ref ca),some (.ref ow),some (.ref ev),some (.ref wa),z4,z5,z6,z7,z8,z9,z10]/\BB K H G xs wa (c::r) i) ⟨_,_,none,none,none,none,none,none,none,rfl,Z0⟩ (fun i σ G _ z=>by obtain⟨c,r,z4,z5,z6,z7,z8,z9,z10,rfl,Z⟩:=z;exact SqL.of (Z.e _ _ kca)) ?_ ?_
 . rintro i x σ G hx ⟨c,r,z4,z5,z6,z7,z8,z9,z10,rfl,Z⟩
   rw[Ak] at hx
   obtain⟨n,hn,rfl⟩:=Be.mp hx
   have hi:i<ns.length:=(Aq.mp hn).1
   dsimp only[ba]
   refine ak (a:=tAsg _ _) fun E1 hE1 _ _=>?_
   refine⟨_,rfl,n,7,rfl,fun dl hdl=>?_⟩
   have D0:DI G dl (upd G dl (.lst [.int (fedF n 7)])):=⟨ad hdl _,_,aa⟩
   generalize upd G dl (.lst [.int (fedF n 7)])=G1 at D0 |-
   refine hE1 [some (.ref ca),some (.ref ow),some (.ref ev),some (.ref wa),some (.int n),some (.ref dl),z6,z7,z8,z9,z10] _ ?_
   clear hE1
   obtain⟨e1,n1,k1⟩:=id D0
   refine ak (a:=tAsg _ _) fun E2 hE2 _ _=>?_
   refine⟨_,rfl,dl,n1,12,rfl,k1,(by decide),(by decide),?_⟩
   have D2':=D0.put hdl (n1 / 12)
   dsimp only[ba]
   generalize upd G1 dl (.lst [.int (n1 / 12)])=G2 at D2' |-
   obtain⟨wy,hwy,hwy1⟩:∃wy:Nat,n1 % 12=(wy:Int)/\wy<12:=⟨(n1 % 12).toNat,by omega,by omega⟩
   rw[hwy]
   refine hE2 [some (.ref ca),some (.ref ow),some (.ref ev),some (.ref wa),some (.int n),some (.ref dl),some (.int (wy:Int)),z7,z8,z9,z10] _ ?_
   clear hE2
   obtain⟨e2,n2,k2⟩:=id D2'
   have hG:∀{a o},H a=some o->G a=some o:=fun h=>Z.e _ _ h
   refine ak (a:=tAsg _ _) fun E3 hE3 _ _=>?_
   refine⟨_,rfl,(show 1<=sizeLine by decide),fun u hu=>?_⟩
   have s3:=ad hu (.lst [V.str "nil"])
   have k3:(upd G2 u (.lst [V.str "nil"])) u=some (.lst [V.str "nil"]):=aa
   generalize upd G2 u (.lst [V.str "nil"])=G3 at s3 k3 |-
   refine⟨ev,u,_,_,rfl,rfl,s3 _ _ (e2 _ _ (hG kev)),k3,bn (by rw[Ac,hx6];decide),fun u2 hu2=>?_⟩
   have s4:=ad hu2 (.lst (xs.map V.str++[V.str "nil"]))
   have k4:(upd G3 u2 (.lst (xs.map V.str++[V.str "nil"]))) u2=some (.lst (xs.map V.str++[V.str "nil"])):=aa
   generalize upd G3 u2 (.lst (xs.map V.str++[V.str "nil"]))=G4 at s4 k4 |-
   have D4:=D2'.same (s3.trans s4)
   obtain⟨e4,n4,k4d⟩:=id D4
   have l7:((xs.map V.str).length:Int)+1=7:=by rw[Ac,hx6];rfl
   refine⟨_,rfl,_,rfl,ev,_,rfl,.inl (SqL.of (e4 _ _ (hG kev))),_,_,rfl,rfl,dl,n4,((xs.map V.str).length:Int)+1,rfl,k4d,(by rw[l7];decide),(by rw[l7];decide),?_⟩
   rw[l7]
   have D5:=D4.put hdl (n4 / 7)
   have k5:(upd G4 dl (.lst [.int (n4 / 7)])) u2=some (.lst (xs.map V.str++[V.str "nil"])):=by rw[ah (fun z=>by rw[z,(s3 _ _ k2)] at hu2;cases hu2)];exact k4
   generalize upd G4 dl (.lst [.int (n4 / 7)])=G5 at D5 k5 |-
   obtain⟨ve,hve,hvm⟩:=lg (xs:=xs.map V.str++[V.str "nil"]) (m:=7) (i:=n4) (by rw[Ag,Ac,hx6];rfl) (by decide)
   obtain⟨e0,rfl,he0⟩:∃e0:Str,ve=.str e0/\e0∈xs++[("nil" : Str)]:=by
     rcases As.mp hvm with z|z
     . obtain⟨y,hy,rfl⟩:=AF.mp z;exact⟨y,rfl,AW _ hy⟩
     . exact⟨_,Au.mp z,AE _ (Au.mpr rfl)⟩
   refine⟨u2,_,_,_,rfl,rfl,SqL.of k5,hve,?_⟩
   dsimp only[ba]
   refine hE3 [some (.ref ca),some (.ref ow),some (.ref ev),some (.ref wa),some (.int n),some (.ref dl),some (.int (wy:Int)),some (.str e0),z8,z9,z10] _ ?_
   clear hE3
   obtain⟨e5,n5,k5d⟩:=id D5
   refine ak (a:=tAsg _ _) fun E4 hE4 _ _=>?_
   have ol0:0<os.length:=List.length_pos_iff.mpr hos
   refine⟨_,rfl,_,rfl,_,rfl,ow,_,rfl,.inl (SqL.of (e5 _ _ (hG kow))),dl,n5,((os.map V.str).length:Int),rfl,k5d,(by rw[Ac];omega),(by rw[Ac];exact Int.le_trans (show (os.length:Int)<=6 by omega) (by decide)),?_⟩
   have D6:=D5.put hdl (n5 / ((os.map V.str).length:Int))
   generalize upd G5 dl (.lst [.int (n5 / ((os.map V.str).length:Int))])=G6 at D6 |-
   obtain⟨e6,n6,k6⟩:=id D6
   obtain⟨vx,hvx,hxm⟩:=lg (xs:=os.map V.str) (m:=((os.map V.str).length:Int)) (i:=n5) rfl (by rw[Ac];omega)
   obtain⟨x0,hx0,rfl⟩:=AF.mp hxm
   refine⟨ow,_,_,_,rfl,rfl,SqL.of (e6 _ _ (hG kow)),hvx,?_⟩
   dsimp only[ba]
   refine hE4 [some (.ref ca),some (.ref ow),some (.ref ev),some (.ref wa),some (.int n),some (.ref dl),some (.int (wy:Int)),some (.str e0),some (.str x0),z9,z10] _ ?_
   clear hE4
   refine ak (a:=tAsg _ _) fun E5 hE5 _ _=>?_
   refine⟨(show 2<=sizeLine by decide),fun u3 hu3=>?_⟩
   have s7:=ad hu3 (.lst [V.str "is",V.str "not"])
   have k7:(upd G6 u3 (.lst [V.str "is",V.str "not"])) u3=some (.lst [V.str "is",V.str "not"]):=aa
   generalize upd G6 u3 (.lst [V.str "is",V.str "not"])=G7 at s7 k7 |-
   have D7:=D6.same s7
   obtain⟨e7,n7,k7d⟩:=id D7
   refine⟨_,rfl,dl,n7,2,rfl,k7d,(by decide),(by decide),?_⟩
   have D8:=D7.put hdl (n7 / 2)
   have k8:(upd G7 dl (.lst [.int (n7 / 2)])) u3=some (.lst [V.str "is",V.str "not"]):=by rw[ah (fun z=>by rw[z,k6] at hu3;cases hu3)];exact k7
   generalize upd G7 dl (.lst [.int (n7 / 2)])=G8 at D8 k8 |-
   obtain⟨vf,hvf,hfm⟩:=lg (xs:=[V.str "is",V.str "not"]) (m:=2) (i:=n7) rfl (by decide)
   obtain⟨f0,rfl,hf0⟩:∃f0:Str,vf=.str f0/\(f0 = "is" \/ f0 = "not"):=by
     simp only[Al,AN,or_false] at hfm
     rcases hfm with z|z
     . exact⟨_,z,.inl rfl⟩
     . exact⟨_,z,.inr rfl⟩
   obtain⟨e8,n8,k8d⟩:=id D8
   have l6:((xs.map V.str).length:Int)=6:=by rw[Ac,hx6];rfl
   refine⟨u3,_,_,_,rfl,rfl,SqL.of k8,hvf,_,rfl,_,rfl,_,rfl,ev,_,rfl,.inl (SqL.of (e8 _ _ (hG kev))),dl,n8,((xs.map V.str).length:Int),rfl,k8d,(by rw[l6];decide),(by rw[l6];decide),?_⟩
   rw[l6]
   have D9:=D8.put hdl (n8 / 6)
   generalize upd G8 dl (.lst [.int (n8 / 6)])=G9 at D9 |-
   obtain⟨e9,n9,k9d⟩:=id D9
   obtain⟨vy,hvy,hym⟩:=lg (xs:=xs.map V.str) (m:=6) (i:=n8) l6 (by decide)
   obtain⟨y0,hy0,rfl⟩:=AF.mp hym
   refine⟨ev,_,_,_,rfl,rfl,SqL.of (e9 _ _ (hG kev)),hvy,_,rfl,(show 3<=sizeLine by decide),fun cd hcd=>?_⟩
   have s10:=ad hcd (.tup [V.str f0,V.str y0,V.str e0])
   have k10:(upd G9 cd (.tup [V.str f0,V.str y0,V.str e0])) cd=some (.tup (([f0,y0,e0]:List Str).map V.str)):=aa
   dsimp only[ba]
   generalize upd G9 cd (.tup [V.str f0,V.str y0,V.str e0])=G10 at s10 k10 |-
   have okc:ie xs [f0,y0,e0]:=⟨f0,y0,e0,rfl,hf0,hy0,he0⟩
   refine hE5 [some (.ref ca),some (.ref ow),some (.ref ev),some (.ref wa),some (.int n),some (.ref dl),some (.int (wy:Int)),some (.str e0),some (.str x0),some (.ref cd),z10] _ ?_
   clear hE5
   have ncd:G cd=none:=e9.free hcd
   have eG:=e9.trans s10
   have Y:=Z.same eG
   clear D0 D2' D4 D5 D6 D7 D8 D9
   have low:=Y.low
   rw[A0] at low
   have lenw:(((c::r).map fun c=>V.ref c.ce).reverse).length=r.length+1:=by rw[C0,Ac,A0]
   have fin:∀{G':Hp} {c':Bk} {r':List Bk} {m:Nat} {z:Option V},BB K H G' xs wa (c'::r') m->m<=i+1->∃(c:Bk) (r:List Bk) (z4 z5 z6 z7 z8 z9 z10:Option V),[some (.ref ca),some (.ref ow),some (.ref ev),some (.ref wa),some (.int n),some (.ref dl),some (.int (wy:Int)),some (.str e0),some (.str x0),some (.ref cd),z]=[some (.ref ca),some (.ref ow),some (.ref ev),some (.ref wa),z4,z5,z6,z7,z8,z9,z10]/\BB K H G' xs wa (c::r) (i+1):=fun Z' hm=>⟨_,_,_,_,_,_,_,_,_,rfl,Z'.mono hm⟩
   refine q8 fun b1 hb1=>?_
   have els1:=hb1 (by
     refine q8 fun b2 hb2=>?_
     have els2:=hb2 (by
       refine q8 fun b3 hb3=>?_
       have els3:=hb3 (by
         refine ak (a:=tAsg _ _) fun E6 hE6 _ _=>?_
         refine⟨(show 2<=sizeLine by decide),fun u hu=>?_⟩
         have s1:=ad hu (.lst [V.int 2,V.int 3])
         have k1:(upd G10 u (.lst [V.int 2,V.int 3])) u=some (.lst [V.int 2,V.int 3]):=aa
         generalize upd G10 u (.lst [V.int 2,V.int 3])=G11 at s1 k1 |-
         have Y1:=Y.same s1
         refine⟨_,rfl,_,rfl,wa,_,_,_,rfl,rfl,SqL.of Y1.last,bh,c.ce,_,0,_,rfl,rfl,SqL.of Y1.hc,at0,rfl,_,rfl,?_⟩
         obtain⟨⟨_,⟨tsa,dsa,ka,pa,gA⟩,⟨tsb,dsb,kb,pb,gB⟩⟩,_⟩:=Y1.st
         have cnt:=Y1.cnt
         unfold cntB at cnt
         rw[AA,Cy] at cnt
         have la':=AD pa
         have lb':=AD pb
         have sa:=gA.short
         have sb:=gB.short
         have okd:∀{G':Hp} {t:Addr} {L:Addr->List Deed->Prop},G' t=some (.tup [V.str "set",V.str x0,V.str e0])->DeedX K G' L t (.plain (.row ["set",x0,e0])):=fun h=>.plain _ h ⟨⟨"set",[x0,e0],["name","value"],rfl,by simp[forms],rfl⟩,fun y hy=>by
           simp only[Al,AN,or_false] at hy
           rcases hy with rfl|rfl|rfl
           . exact i7 _ (by simp)
           . exact okx _ (hox _ hx0)
           . rcases As.mp he0 with z|z
             . exact okx _ z
             . rw[Au.mp z];exact i7 _ (by simp)⟩
         have gd:Gd xs [.plain (.row ["set",x0,e0])] 1:=Gd.one (n:=0) ⟨x0,e0,rfl,hox _ hx0,he0⟩ (fun _=>Ah _) (fun _ _ h=>by cases h)
         by_cases z:c.wd = "else"
         . rw[decide_eq_true (show V.str c.wd=V.str (Bq "else") from congrArg V.str z)]
           refine⟨u,_,1,_,rfl,rfl,SqL.of k1,rfl,?_⟩
           dsimp only[ba]
           refine hE6 [some (.ref ca),some (.ref ow),some (.ref ev),some (.ref wa),some (.int n),some (.ref dl),some (.int (wy:Int)),some (.str e0),some (.str x0),some (.ref cd),some (.int 3)] _ ?_
           refine⟨_,rfl,_,rfl,wa,_,_,_,rfl,rfl,SqL.of Y1.last,bh,_,rfl,c.ce,_,3,_,rfl,rfl,SqL.of Y1.hc,rfl,.inl ⟨rfl,_,SqL.of kb⟩,_,rfl,_,rfl,(show 3<=sizeLine by decide),fun t ht=>?_⟩
           have s2:=ad ht (.tup [V.str "set",V.str x0,V.str e0])
           have k2:(upd G11 t (.tup [V.str "set",V.str x0,V.str e0])) t=some (.tup [V.str "set",V.str x0,V.str e0]):=aa
           generalize upd G11 t (.tup [V.str "set",V.str x0,V.str e0])=G12 at s2 k2 |-
           have nt:=Y1.new ht
           refine⟨c.b,_,_,rfl,rfl,s2 _ _ kb,cx (by rw[Ac];omega),?_⟩
           exact fin ((Y1.same s2).appB (s2 _ _ kb) (okd (by rw[cb nt];exact k2)) gd) (Ah _)
         . rw[decide_eq_false (show ¬ V.str c.wd=V.str (Bq "else") from fun y=>z (V.str.inj y))]
           refine⟨u,_,0,_,rfl,rfl,SqL.of k1,rfl,?_⟩
           dsimp only[ba]
           refine hE6 [some (.ref ca),some (.ref ow),some (.ref ev),some (.ref wa),some (.int n),some (.ref dl),some (.int (wy:Int)),some (.str e0),some (.str x0),some (.ref cd),some (.int 2)] _ ?_
           refine⟨_,rfl,_,rfl,wa,_,_,_,rfl,rfl,SqL.of Y1.last,bh,_,rfl,c.ce,_,2,_,rfl,rfl,SqL.of Y1.hc,rfl,.inl ⟨rfl,_,SqL.of ka⟩,_,rfl,_,rfl,(show 3<=sizeLine by decide),fun t ht=>?_⟩
           have s2:=ad ht (.tup [V.str "set",V.str x0,V.str e0])
           have k2:(upd G11 t (.tup [V.str "set",V.str x0,V.str e0])) t=some (.tup [V.str "set",V.str x0,V.str e0]):=aa
           generalize upd G11 t (.tup [V.str "set",V.str x0,V.str e0])=G12 at s2 k2 |-
           have nt:=Y1.new ht
           refine⟨c.a,_,_,rfl,rfl,s2 _ _ ka,cx (by rw[Ac];omega),?_⟩
           exact fin ((Y1.same s2).appA (s2 _ _ ka) (okd (by rw[cb nt];exact k2)) gd) (Ah _))
       clear hb3
       refine⟨_,rfl,_,_,rfl,rfl,_,rfl,iteB (fun c1=>⟨_,_,rfl,rfl,_,rfl,iteB (fun c2=>⟨_,rfl,wa,_,rfl,.inl (SqL.of Y.w),_,_,rfl,rfl,_,rfl,iteB (fun cw=>?_) (fun c3=>els3)⟩) (fun c2=>?_)⟩) (fun c1=>?_)⟩
       . obtain⟨c2,r2,rfl⟩:∃c2 r2,r=c2::r2:=by
           cases r with
           | nil=>exact absurd (of_decide_eq_true cw) (by simp)
           | cons c2 r2=>exact⟨c2,r2,rfl⟩
         exact⟨_,rfl,.mk H xs wa c c2 r2 i rfl Y (by omega) okx fun H' b' Z'=>fin Z' (CD _)⟩
       . exact (if_neg Af).mpr els3
       . exact⟨_,rfl,(if_neg Af).mpr els3⟩)
     clear hb2
     refine⟨_,rfl,rfl,_,rfl,iteB (fun c1=>⟨_,rfl,_,rfl,wa,_,_,_,rfl,rfl,SqL.of Y.last,bh,c.ce,_,0,_,rfl,rfl,SqL.of Y.hc,at0,rfl,_,rfl,iteB (fun c2=>?_) (fun c2=>els2)⟩) (fun c1=>(if_neg Af).mpr els2)⟩
     refine⟨_,rfl,_,rfl,wa,_,_,_,rfl,rfl,SqL.of Y.last,bh,c.ce,_,0,0,rfl,rfl,Y.hc,rfl,?_⟩
     exact fin (Y.word "else") (CD _))
   clear hb1
   refine⟨_,rfl,_,_,rfl,rfl,_,rfl,iteB (fun c1=>⟨_,rfl,wa,_,rfl,.inl (SqL.of Y.w),_,_,rfl,rfl,_,rfl,iteB (fun c2=>?_) (fun c2=>els1)⟩) (fun c1=>(if_neg Af).mpr els1)⟩
   have hw5:wy<5:=by have:=of_decide_eq_true c1;omega
   have hl5:(c::r).length<5:=by have:=of_decide_eq_true c2;rw[lenw] at this;rw[A0];omega
   refine⟨_,rfl,.inl ⟨rfl,_,SqL.of Y.w⟩,(show 2<=sizeLine by decide),fun u hu=>?_⟩
   have s1:=ad hu (.lst [V.str "if",V.str "while"])
   have k1:(upd G10 u (.lst [V.str "if",V.str "while"])) u=some (.lst [V.str "if",V.str "while"]):=aa
   generalize upd G10 u (.lst [V.str "if",V.str "while"])=G11 at s1 k1 |-
   obtain⟨wd,hwd⟩:∃wd:Str,atI [V.str "if",V.str "while"] ((wy:Int) / 3)=some (.str wd):=by
     by_cases z:wy<3
     . rw[show (wy:Int) / 3=0 by omega];exact⟨_,rfl⟩
     . rw[show (wy:Int) / 3=1 by omega];exact⟨_,rfl⟩
   refine⟨_,rfl,_,_,rfl,rfl,(show CDiv _ 3 from⟨by decide,by decide⟩),u,_,_,_,rfl,rfl,SqL.of k1,hwd,_,rfl,(show 0<=sizeLine by decide),fun a' ha'=>⟨(show 0<=sizeLine by decide),fun b' hb'=>⟨(show 4<=sizeLine by decide),fun ce' hce'=>?_⟩⟩⟩
   have s2:=ad ha' (.lst [])
   have k2:(upd G11 a' (.lst [])) a'=some (.lst []):=aa
   generalize upd G11 a' (.lst [])=G12 at s2 k2 hb' hce' |-
   have s3:=ad hb' (.lst [])
   have k3:(upd G12 b' (.lst [])) b'=some (.lst []):=aa
   generalize upd G12 b' (.lst [])=G13 at s3 k3 hce' |-
   have s4:=ad hce' (.lst [.str wd,.ref cd,.ref a',.ref b'])
   have k4:(upd G13 ce' (.lst [.str wd,.ref cd,.ref a',.ref b'])) ce'=some (.lst [.str wd,.ref cd,.ref a',.ref b']):=aa
   dsimp only
   generalize upd G13 ce' (.lst [.str wd,.ref cd,.ref a',.ref b'])=G14 at s4 k4 |-
   have f11:=eG.trans s1
   have f12:=f11.trans s2
   have f13:=f12.trans s3
   have kcd:=(((s1.trans s2).trans s3).trans s4) _ _ k10
   refine⟨wa,_,_,rfl,rfl,(((s1.trans s2).trans s3).trans s4) _ _ Y.w,cx (by rw[lenw];omega),?_⟩
   exact fin (Z.push (f13.trans s4) hl5 (by simp) (f13.free hce') (f11.free ha') (f12.free hb') ncd (ne_ (s3 _ _ k2) hce') (ne_ k3 hce') (AO (ne_ k2 hb')) kcd ⟨AO (ne_ ((s1.trans (s2.trans s3)) _ _ k10) hce'),AO (ne_ (s1 _ _ k10) ha'),AO (ne_ ((s1.trans s2) _ _ k10) hb')⟩ okc k4 ((s3.trans s4) _ _ k2) (s4 _ _ k3)) (Ah _)
 . rintro σ G ⟨c,r,z4,z5,z6,z7,z8,z9,z10,rfl,Z⟩
   refine hD2 _ _ ?_
   clear hD2
   rw[Ac] at Z
   replace Z:=Z.mono hns
   refine ak (a:=qq _ _) fun D3 hD3 _ _=>?_
   refine⟨fun m σ G=>∃(c:Bk) (r:List Bk),m=r.length/\σ=[some (.ref ca),some (.ref ow),some (.ref ev),some (.ref wa),z4,z5,z6,z7,z8,z9,z10]/\BB K H G xs wa (c::r) 28,⟨_,c,r,rfl,rfl,Z⟩,?_⟩
   clear Z c r
   rintro m σ G ⟨c,r,rfl,rfl,Z⟩
   have lenw:(((c::r).map fun c=>V.ref c.ce).reverse).length=r.length+1:=by rw[C0,Ac,A0]
   refine⟨_,rfl,wa,_,rfl,.inl (SqL.of Z.w),_,_,rfl,rfl,_,rfl,iteB (fun c1=>?_) (fun c1=>?_)⟩
   . obtain⟨c2,r2,rfl⟩:∃c2 r2,r=c2::r2:=by
       cases r with
       | nil=>exact absurd (of_decide_eq_true c1) (by simp)
       | cons c2 r2=>exact⟨c2,r2,rfl⟩
     refine⟨fun σ' G'=>∃b',σ'=[some (.ref ca),some (.ref ow),some (.ref ev),some (.ref wa),z4,z5,z6,z7,z8,z9,z10]/\BB K H G' xs wa (b'::r2) 28,fun σ' G' hN=>?_,?_⟩
     . obtain⟨b',rfl,Z'⟩:=hN
       exact⟨r2.length,Cb _,b',r2,rfl,rfl,Z'⟩
     . exact⟨_,rfl,.mk H xs wa c c2 r2 28 rfl Z (Ah _) okx fun H' b' Z'=>⟨b',rfl,Z'⟩⟩
   . have e1:r=[]:=by
       cases r with
       | nil=>rfl
       | cons c2 r2=>exact absurd (show (((((c::c2::r2).map fun c=>V.ref c.ce).reverse).length:Nat):Int)>1 by rw[lenw,A0];omega) (of_decide_eq_false c1)
     subst e1
     refine hD3 _ _ ?_
     refine⟨_,rfl,wa,_,0,_,rfl,rfl,SqL.of Z.w,at0,c.ce,_,2,_,rfl,rfl,SqL.of Z.hc,rfl,?_⟩
     obtain⟨⟨_,⟨tsa,dsa,ka,pa,gA⟩,_⟩,_⟩:=Z.st
     have cnt:=Z.cnt
     unfold cntB at cnt
     rw[AA,Cy] at cnt
     have sa:=gA.short
     have hg:=gA.mono (n:=28) (by omega)
     exact q c.a dsa G Z.e ⟨tsa,ka,Paired.mapP pa fun _ _ z=>z.same ej fun _ _ y=>y.same ej,by rw[AD pa];omega⟩ hg
theorem aar {X:Cx}{K:Ab}(h:X.K=K):SlR X (a0e K):=by subst h;exact i6
noncomputable abbrev a1f:Stmt:=top 45
theorem a0c {S:List Str}{x:Str}(h:S.Nodup):(addL S x).Nodup:=by
 unfold addL
 split
 . exact h
 . rename_i hn
   exact Fj.mpr ⟨h,FQ _ _,fun y hy z hz e=>hn (by rw[<- Au.mp hz,<- e];exact hy)⟩
structure FD (X H:Hp) (fd:Addr) (xs S ws:List Str):Prop where
 e:Same X H
 k:H fd=some (.dK (bK S))
 nd:S.Nodup
 mem:∀y,y∈S↔y∈ws
 sub:∀y∈S,y∈xs++[("nil" : Str)]
theorem FD.put {X H:Hp}{fd:Addr}{xs S ws:List Str}{y:Str}(h:FD X H fd xs S ws) (n:X fd=none) (hy:y∈xs++[("nil" : Str)]):FD X (upd H fd (.dK (bK (addL S y)))) fd xs (addL S y) (ws++[y]):=by
 refine⟨fun b o z=>by rw[ah (ao z n)];exact h.e _ _ z,aa,a0c h.nd,fun z=>by rw[mem_addL,h.mem,As,Au],fun z hz=>?_⟩
 rcases mem_addL.mp hz with q|q
 . exact h.sub z q
 . rw[q];exact hy
theorem FD.same {X H H':Hp}{fd:Addr}{xs S ws:List Str}(h:FD X H fd xs S ws) (e:Same H H'):FD X H' fd xs S ws:=⟨h.e.trans e,e _ _ h.k,h.nd,h.mem,h.sub⟩
theorem FD.len {X H:Hp}{fd:Addr}{xs S ws:List Str}(h:FD X H fd xs S ws) (hx:xs.length<=6):(bK S).length<sizeLine:=by
 have:=Bf h.nd h.sub
 rw[Ag] at this
 exact cx (by unfold bK;rw[Ac];simp at this;omega)
theorem j8 {K:Ab}{H H':Hp}{a:Addr}{xs:List V}(h:SqT K H a xs) (k:∀o,H a=some o->(∀C d f,o≠.ins C d f)->(∀kvs,o≠.dK kvs)->(∀l,o≠.lst l)->H' a=some o):SqT K H' a xs:=by
 rcases h with (h|⟨o,h⟩)|h
 . exact .inl (.inl (k _ h (fun _ _ _ z=>by cases z) (fun _ z=>by cases z) (fun _ z=>by cases z)))
 . exact .inl (.inr ⟨o,k _ h (fun _ _ _ z=>by cases z) (fun _ z=>by cases z) (fun _ z=>by cases z)⟩)
 . exact .inr h
theorem ud {K:Ab}{H H':Hp}{d b:Addr}{kvs:List (Key×V)}{zs:List V}(hd:H d=some (.dK kvs)) (e:dz d H H') (h:SqT K H b zs):SqT K H' b zs:=j8 h fun o h1 _ h3 _=>e _ _ h1 fun z=>by rw[z,hd] at h1;cases h1;exact h3 _ rfl
theorem gk {d:Addr}{H H1 H2:Hp}(a:dz d H H1) (b:dz d H1 H2):dz d H H2:=fun c o h n=>b _ _ (a _ _ h n) n
theorem j3 {d:Addr}{H:Hp}{o:HO}:dz d H (upd H d o):=fun c u h n=>by rw[ah n];exact h
inductive spSaid (K:Ab) (bs:List Nat) (vs:List V) (H:Hp) (Q:VK) (E:XK):Prop
 | mk (X:Hp) (l fd:Addr) (ds:List Deed) (xs S ws:List Str) (h0:vs=[.ref l,.ref fd]) (n:X fd=none) (h1:ListX K X bs l ds) (h2:∀d∈allL bs ds,DG xs d) (h3:xs.length<=6) (hF:FD X H fd xs S ws) (q:∀S' H',dz fd H H'->FD X H' fd xs S' (ws++(allL bs ds).flatMap wrd)->Q .non H'):spSaid K bs vs H Q E
theorem scSaid:FnScope ["_law_deeds","_law_found","_law_deed","_law_some"] ["_law_deeds","_law_found"] (au a1f):=⟨rfl,rfl,rfl,by decide +kernel,rfl,by decide +kernel,by decide +kernel⟩
theorem a61:FnOk P w K mg base CX0 1 f fd ["_law_deeds","_law_found"] (spSaid K []) :=
 ⟨fun vs H Q E h=>by obtain⟨X,l,fd,ds,xs,S,ws,_,_,h1,_⟩:=h;exact h1.elim,fun A outer s H args us vs Q E _ _ _ _ h=>by obtain⟨X,l,fd,ds,xs,S,ws,_,_,h1,_⟩:=h;exact h1.elim⟩
theorem iy {n b:Nat}{bs:List Nat}(C:Con K mg w) (F:Fun K "_law_said" "_law_said" a1f f fd) (GR:FnOk P w K mg base CX0 (n+1) f fd ["_law_deeds","_law_found"] (spSaid K bs)) (cR:Cal K mg "_law_said" f fd ["_law_deeds","_law_found"]):FnOk P w K mg base CX0 (n+1+1) f fd ["_law_deeds","_law_found"] (spSaid K (b::bs)):=by
 refine F.okQ scSaid (fun vs H Q E h=>?_) (fun cdv A outer s0 H vs Q E hr h=>?_)
 . obtain⟨_,_,_,_,_,_,_,rfl,_⟩:=h;rfl
 obtain⟨X,l,fo,ds,xs,S,ws,rfl,nfo,⟨ts,kl,pr,hlen⟩,hok,hx6,F0,q⟩:=h
 have nd:=scSaid.nd
 have hu1:=dn hr
 refine⟨_,(ai (dv AH rfl (wb (K:=K) rfl (qv 0)) (bo (i:=2) nd rfl (Or.inl rfl)) (ai (bg (aw bb (af (ixTK (K:=K) rfl) (qv 2) ab (fun _ _=>rfl)) b6 (av _)) (ae (di hu1 (qv 1) (af (ixTK (K:=K) rfl) (qv 2) ab (fun _ _=>rfl)) ge)
   (ai (di hu1 (qv 1) (af (ixTK (K:=K) rfl) (qv 2) ab (fun _ _=>rfl)) ge))) (ae (di hu1 (qv 1) (af (ixTK (K:=K) rfl) (af (ixTK (K:=K) rfl) (qv 2) ab (fun _ _=>rfl)) ab (fun _ _=>rfl)) ge)
   (ae (di hu1 (qv 1) (af (ixTK (K:=K) rfl) (af (ixTK (K:=K) rfl) (qv 2) ab (fun _ _=>rfl)) ab (fun _ _=>rfl)) ge)
   (ai (dv AH rfl (zi (K:=K) rfl (cj (aar (K:=K) rfl) (qv 2) (cr ab) dj)) (bo (i:=3) nd rfl (Or.inl rfl)) (ai (bg (ft (bf (tq (K:=K) rfl) rfl C.isi CC (aj (qv 3) (aj ⟨gty C.list Bv⟩ a0)))) (ai (bp (aq GR hr rfl cR.name cR.keep cR.bind .nil ap (aj (qv 3) (aj (qv 1) a0))))) bq)))))))))),?_⟩
 have hpl:=AD pr
 have hok':∀d∈ds.flatMap (allD (allL bs)),DG xs d:=hok
 refine⟨_,rfl,l,rfl,⟨_,SqL.of (F0.e _ _ kl)⟩,?_⟩
 refine i8 (xs:=ts.map V.ref) (fun i σ G=>∃(S:List Str) (z2 z3:Option V),σ=[some (.ref l),some (.ref fo),z2,z3]/\dz fo H G/\FD X G fo xs S (ws++((ds.take i).flatMap (allD (allL bs))).flatMap wrd)) ⟨S,none,none,rfl,fun _ _ h _=>h,by rw[DT,Cp,Cp,BZ];exact F0⟩ ?_ ?_ ?_
 . rintro i σ G hi ⟨S,z2,z3,rfl,eX,F⟩
   exact SqL.of (F.e _ _ kl)
 . rintro i x σ G hx ⟨S,z2,z3,rfl,eX,F⟩
   rw[Ak] at hx
   obtain⟨t,ht,rfl⟩:=Be.mp hx
   obtain⟨d,hd,hdx⟩:=Paired.nth pr ht
   have hdm:d∈ds:=AQ hd
   have hdg:DG xs d:=hok' d (Bh.mpr ⟨d,hdm,Aj⟩)
   have hin:∀es∈innL d,∀e∈allL bs es,DG xs e:=fun es hes e he=>hok' e (Bh.mpr ⟨d,hdm,Ao _ (Bh.mpr ⟨es,hes,he⟩)⟩)
   have tk:ds.take (i+1)=ds.take i++[d]:=by rw[GV,hd];rfl
   have ew:ws++((ds.take (i+1)).flatMap (allD (allL bs))).flatMap wrd=ws++((ds.take i).flatMap (allD (allL bs))).flatMap wrd++(wrd d++((innL d).flatMap (allL bs)).flatMap wrd):=by
     rw[tk,Ci,Bw,Ci,BI]
     show _++(_++(d::(innL d).flatMap (allL bs)).flatMap wrd)=_
     rw[Ea]
   rw[ew]
   generalize ws++((ds.take i).flatMap (allD (allL bs))).flatMap wrd=pre at F |-
   dsimp only[ba]
   have nis:("if" : Str) ≠ "set" /\ ("while" : Str) ≠ "set" := by decide +kernel
   have shape:(∃x0 y0:Str,d=.plain (.row ["set",x0,y0])/\X t=some (.tup [.str "set",.str x0,.str y0])/\x0∈xs/\y0∈xs++[("nil" : Str)])\/∃(wd:Str) (c:Addr) (u2 m3:Addr) (f0 x0 y0:Str) (es1:List (List Deed)) (es3:List Deed),X t=some (.tup [.str wd,.ref c,.ref u2,.ref m3])/\wd ≠ "set" /\ X c=some (.tup (([f0,x0,y0]:List Str).map V.str))/\x0∈xs/\y0∈xs++[("nil" : Str)]/\wrd d=[x0,y0]/\innL d=es1++[es3]/\ListX K X bs m3 es3/\((∃a,es1=[a]/\ListX K X bs u2 a)\/(es1=[]/\∃vs,X u2=some (.tup vs))):=by
     cases hdx with
     | plain p h1 h2 =>
       cases p with
       | call=>exact hdg.elim
       | row r =>
         obtain⟨x0,y0,rfl,hx0,hy0⟩:=hdg
         exact .inl ⟨x0,y0,rfl,h1,hx0,hy0⟩
     | cond c m1 m2 r a b' h hc okr hi ho =>
       obtain⟨f0,x0,y0,rfl,_,hx0,hy0⟩:=hdg
       exact .inr ⟨_,c,m1,m2,f0,x0,y0,[a],b',h,nis.1,hc,hx0,hy0,rfl,rfl,ho,.inl ⟨a,rfl,hi⟩⟩
     | loop c td m1 fa pa r FF PP a h hc okr htd hF hP okF okP lF lP hi =>
       obtain⟨⟨f0,x0,y0,rfl,_,hx0,hy0⟩,rfl,rfl⟩:=hdg
       exact .inr ⟨_,c,td,m1,f0,x0,y0,[],a,h,nis.2,hc,hx0,hy0,rfl,rfl,hi,.inr ⟨rfl,_,htd⟩⟩
   clear hdx
   rcases shape with⟨x0,y0,rfl,k0,hx0,hy0⟩|⟨wd,c,u2,m3,f0,x0,y0,es1,es3,k0,nws,kc,hx0,hy0,ewr,einn,hm3,hu2⟩
   . have ewr:wrd (.plain (.row ["set",x0,y0]))=[x0,y0]:=by show gv "set" [x0,y0]=_;unfold gv;rfl
     refine⟨_,rfl,t,_,0,_,rfl,rfl,SqT.of (F.e _ _ k0),at0,rfl,_,rfl,iteB (fun _=>?_) (fun c=>absurd c (by simp))⟩
     refine ak (a:=ju _ _ _) fun D1 hD1 _ _=>?_
     refine⟨_,rfl,_,rfl,t,_,1,_,rfl,rfl,SqT.of (F.e _ _ k0),rfl,fo,_,rfl,DPut.k (k:=Sum.inr x0) F.k (F.len hx6),?_⟩
     rw[lv]
     have F1:=F.put nfo (AW _ hx0) (y:=x0)
     have eX1:dz fo H (upd G fo (.dK (bK (addL S x0)))):=gk eX j3
     generalize upd G fo (.dK (bK (addL S x0)))=G1 at F1 eX1 |-
     refine hD1 [some (.ref l),some (.ref fo),some (.ref t),z3] _ ?_
     refine⟨_,rfl,_,rfl,t,_,2,_,rfl,rfl,SqT.of (F1.e _ _ k0),rfl,fo,_,rfl,DPut.k (k:=Sum.inr y0) F1.k (F1.len hx6),?_⟩
     rw[lv]
     have F2:=F1.put nfo hy0 (y:=y0)
     refine⟨addL (addL S x0) y0,_,_,rfl,gk eX1 j3,?_⟩
     rw[ewr]
     rw[BI] at F2
     exact F2
   . refine⟨_,rfl,t,_,0,_,rfl,rfl,SqT.of (F.e _ _ k0),at0,rfl,_,rfl,iteB (fun c=>absurd (V.str.inj (of_decide_eq_true c)) nws) (fun _=>?_)⟩
     refine ak (a:=ju _ _ _) fun D1 hD1 _ _=>?_
     refine⟨_,rfl,_,rfl,t,_,1,_,rfl,rfl,SqT.of (F.e _ _ k0),rfl,c,_,1,_,rfl,rfl,SqT.of (F.e _ _ kc),rfl,fo,_,rfl,DPut.k (k:=Sum.inr x0) F.k (F.len hx6),?_⟩
     rw[lv]
     have F1:=F.put nfo (AW _ hx0) (y:=x0)
     have eX1:dz fo H (upd G fo (.dK (bK (addL S x0)))):=gk eX j3
     generalize upd G fo (.dK (bK (addL S x0)))=G1 at F1 eX1 |-
     refine hD1 [some (.ref l),some (.ref fo),some (.ref t),z3] _ ?_
     clear hD1
     refine ak (a:=ju _ _ _) fun D2 hD2 _ _=>?_
     refine⟨_,rfl,_,rfl,t,_,1,_,rfl,rfl,SqT.of (F1.e _ _ k0),rfl,c,_,2,_,rfl,rfl,SqT.of (F1.e _ _ kc),rfl,fo,_,rfl,DPut.k (k:=Sum.inr y0) F1.k (F1.len hx6),?_⟩
     rw[lv]
     have F2:=F1.put nfo hy0 (y:=y0)
     rw[BI] at F2
     have eX2:dz fo H (upd G1 fo (.dK (bK (addL (addL S x0) y0)))):=gk eX1 j3
     generalize upd G1 fo (.dK (bK (addL (addL S x0) y0)))=G2 at F2 eX2 |-
     refine hD2 [some (.ref l),some (.ref fo),some (.ref t),z3] _ ?_
     clear hD2
     refine⟨_,rfl,_,rfl,t,_,rfl,SqT.of (F2.e _ _ k0),fun p G3 s3 hp3=>?_⟩
     have hp3':SqT K G3 p [.ref u2,.ref m3]:=hp3
     have F3:=F2.same s3
     have eX3:dz fo H G3:=gk eX2 (s3.x fo)
     rw[ewr,einn]
     refine⟨p,rfl,⟨_,hp3'⟩,?_⟩
     refine a08 (xs:=[.ref u2,.ref m3]) (fun j σ G=>∃(S:List Str) (z3:Option V),σ=[some (.ref l),some (.ref fo),some (.ref t),z3]/\SqT K G p [.ref u2,.ref m3]/\dz fo H G/\FD X G fo xs S (pre++([x0,y0]++((if j=0 then [] else if j=1 then es1 else es1++[es3]).flatMap (allL bs)).flatMap wrd))) ⟨_,z3,rfl,hp3',eX3,by rw[if_pos rfl,Cp,Cp,BZ];exact F3⟩ ?_ ?_ ?_
     . rintro j σ G hj ⟨S,z3,rfl,hu,_⟩
       exact hu
     . rintro j v σ G hv ⟨S,z3,rfl,hu,eX,F⟩
       dsimp only[ba]
       match j,hv with
       | 0,hv =>
         cases hv
         rw[if_pos rfl,Cp,Cp,BZ] at F
         rcases hu2 with⟨a,rfl,ha⟩|⟨rfl,vs,hvs⟩
         . obtain⟨tsa,hta⟩:=jf ha
           refine⟨_,rfl,.inr (.inr ⟨u2,_,rfl,SqL.of (F.e _ _ hta),_,rfl,iteB (fun _=>?_) (fun c=>absurd c (by simp))⟩)⟩
           refine⟨_,rfl,_,rfl,.mk X u2 fo a xs S _ rfl nfo ha (hin a (by rw[einn];exact Aj)) hx6 F fun S' G' e' F'=>?_⟩
           refine⟨S',_,rfl,ud F.k e' hu,gk eX e',?_⟩
           rw[if_neg (by decide),if_pos rfl,Bw]
           rw[BI] at F'
           exact F'
         . refine⟨_,rfl,.inr (.inl ⟨u2,_,rfl,SqT.of (F.e _ _ hvs),_,rfl,iteB (fun c=>absurd c (by simp)) (fun _=>?_)⟩)⟩
           refine⟨S,_,rfl,hu,eX,?_⟩
           rw[if_neg (by decide),if_pos rfl,Cp,Cp,BZ]
           exact F
       | 1,hv =>
         cases hv
         rw[if_neg (by decide),if_pos rfl] at F
         obtain⟨tsa,hta⟩:=jf hm3
         refine⟨_,rfl,.inr (.inr ⟨m3,_,rfl,SqL.of (F.e _ _ hta),_,rfl,iteB (fun _=>?_) (fun c=>absurd c (by simp))⟩)⟩
         refine⟨_,rfl,_,rfl,.mk X m3 fo es3 xs S _ rfl nfo hm3 (hin es3 (by rw[einn];exact AE _ Aj)) hx6 F fun S' G' e' F'=>?_⟩
         refine⟨S',_,rfl,ud F.k e' hu,gk eX e',?_⟩
         rw[if_neg (by decide),if_neg (by decide),Ci,Bw,Ci]
         rw[BI,BI] at F'
         exact F'
       | j+2,hv=>cases hv
     . rintro σ G ⟨S,z3,rfl,hu,eX,F⟩
       exact⟨S,_,_,rfl,eX,F⟩
 . rintro σ G ⟨S,z2,z3,rfl,eX,F⟩
   rw[Ac,hpl,BD] at F
   exact q S G eX F
theorem a88 {K:Ab}{G:Hp}{L:Addr->List Deed->Prop}{t:Addr}{d:Deed}{s:Nat}{es:List Deed}(h:DeedX K G L t d) (hs:subD d s=some es):∃m,Side G t s m/\L m es:=by
 cases h with
 | plain p h1 h2=>cases hs
 | cond c i o r a b h hc okr hi ho =>
   match s,hs with
   | 0,hs=>cases hs;exact⟨i,.cond i o _ h (.inl ⟨rfl,rfl⟩),hi⟩
   | 1,hs=>cases hs;exact⟨o,.cond i o _ h (.inr ⟨rfl,rfl⟩),ho⟩
 | loop c td i fa pa r F P a h hc okr htd hF hP okF okP lF lP hi =>
   match s,hs with
   | 0,hs=>cases hs;exact⟨i,.loop _ _ h rfl,hi⟩
theorem fg {K:Ab}{G:Hp}{es:List Deed}:∀{p:Pre}{bs:List Nat}{bd:Addr}{ds:List Deed},ListX K G bs bd ds->subL ds p=some es->∃(l:Addr) (ts:List Addr),LFrom G bd p l/\G l=some (.lst (ts.map V.ref))/\ts.length=es.length/\p.length<bs.length
 | [],[],_,_,h,_=>h.elim
 | [],b::bs,bd,ds,h,hs=>by
   cases hs
   obtain⟨ts,h1,h2,_⟩:=h
   exact⟨bd,ts,rfl,h1,AD h2,Nat.succ_pos _⟩
 | (k,s)::p,[],_,_,h,_=>h.elim
 | (k,s)::p,b::bs,bd,ds,h,hs=>by
   obtain⟨ts,h1,h2,_⟩:=h
   unfold subL at hs
   cases e1:ds[k]? with
   | none=>rw[e1] at hs;cases hs
   | some d =>
     rw[e1] at hs
     replace hs:(subD d s).bind (fun es=>subL es p)=some es:=hs
     cases e2:subD d s with
     | none=>rw[e2] at hs;cases hs
     | some es0 =>
       rw[e2] at hs
       have hkl:=(Aq.mp e1).1
       have e3:ts[k]? = some ts[k]!:=by
         rw[List.getElem!_eq_getElem?_getD,Ai (by rw[AD h2];exact hkl)];rfl
       have hx:=Paired.at2 h2 e3 e1
       obtain⟨m,hm1,hm2⟩:=a88 hx e2
       obtain⟨l,ts',g1,g2,g3,g4⟩:=fg (p:=p) hm2 hs
       exact⟨l,ts',⟨ts,_,m,h1,e3,hm1,g1⟩,g2,g3,Nat.succ_lt_succ g4⟩
theorem LEnd.due {X:Hp}{bd:Addr}{p:Pre}{l:Addr}{due:Pre×Nat}{e:Option Addr}(h:LEnd X bd p l due e):∃(l':Addr) (ts:List Addr),LFrom X bd due.1 l'/\X l'=some (.lst (ts.map V.ref))/\due.2<=ts.length/\(due.1≠[]->due.2<ts.length):=by
 induction h with
 | top ts h=>exact⟨bd,ts,rfl,h,Ah _,fun z=>absurd rfl z⟩
 | last p l ts k s t i o m c due e hl h hk ht hs hn ih=>exact ih
 | next p l ts k s t i o m t' c due e hl h hk ht hs hn ih =>
   have:=(Aq.mp hn).1
   exact⟨l,ts,hl.from,h,BV this,fun _=>this⟩
 | loop p l ts k t m c d due e hl h hk ht ih =>
   have:=(Aq.mp hk).1
   exact⟨l,ts,hl.from,h,BV this,fun _=>this⟩
theorem Stands.due {X:Hp}{bd:Addr}{p:Pre}{k:Nat}{due:Pre×Nat}{e:Option Addr}(h:Stands X bd p k due e):∃(l':Addr) (ts:List Addr),LFrom X bd due.1 l'/\X l'=some (.lst (ts.map V.ref))/\due.2<=ts.length/\(due.1≠[]->due.2<ts.length):=by
 rcases h with⟨l,t,ts,hl,h1,hk,rfl,he⟩|⟨l,ts,hl,h1,hk⟩
 . have:=(Aq.mp hk).1
   exact⟨l,ts,hl,h1,BV this,fun _=>this⟩
 . exact hl.due
noncomputable def AtP (ds:List Deed) (pp:Pre) (k:Nat):Prop:=∃es,subL ds pp=some es/\k<=es.length/\(pp≠[]->k<es.length)
theorem ww {K:Ab}{G:Hp}{bs:List Nat}{bd:Addr}{ds:List Deed}{p:Pre}{k:Nat}{due:Pre×Nat}{e:Option Addr}(hL:ListX K G bs bd ds) (h:Stands G bd p k due e):AtP ds due.1 due.2:=by
 obtain⟨l,ts,h1,h2,h3,h4⟩:=h.due
 obtain⟨es,e1,e2,_⟩:=il hL h1 h2
 exact⟨es,e1,by rw[e2];exact h3,fun z=>by rw[e2];exact h4 z⟩
theorem j7 {K:Ab}{G:Hp}{bs:List Nat}{bd:Addr}{ds es:List Deed}{p:Pre}{k:Nat}(hL:ListX K G bs bd ds) (hs:subL ds p=some es) (hk:k<=es.length):∃e,Stands G bd p k (dueR ds p.reverse k) e/\(dueR ds p.reverse k).1.length<=p.length:=by
 obtain⟨ts0,h0⟩:=jf hL
 obtain⟨l,ts,h1,h2,h3,_⟩:=fg hL hs
 obtain⟨due,e,s1,s2⟩:=Stands.of h0 h1 h2 (by rw[h3];exact hk)
 have:=rh hL p.reverse (by rw[Hh];exact s1)
 subst this
 exact⟨e,s1,s2⟩
theorem ua:∀{m n:Nat}{ds:List Deed}{d:Deed},m<=n->d∈allL (B m) ds->d∈allL (B n) ds
 | 0,_,_,_,_,h=>by cases h
 | m+1,0,_,_,hn,_=>absurd hn (Nat.not_succ_le_zero _)
 | m+1,n+1,ds,d,hn,h=>by
   have h':d∈ds.flatMap (allD (allL (B m))):=h
   obtain⟨d0,h0,h1⟩:=Bh.mp h'
   refine Bh.mpr ⟨d0,h0,?_⟩
   rcases Al.mp h1 with rfl|z
   . exact Aj
   . obtain⟨es,he,hz⟩:=Bh.mp z
     exact Ao _ (Bh.mpr ⟨es,he,ua (Nat.le_of_succ_le_succ hn) hz⟩)
theorem zo {K:Ab}{G:Hp}{bd:Addr}{ds:List Deed}{xs ys:List Str}(hL:ListX K G (B 5) bd ds) (hg:∀d∈allL (B 5) ds,DG xs d) (hw:∀d∈allL (B 5) ds,∀y∈wrd d,y∈xs->y∈ys):AllD ys ds:=fun p es i d h hd=>by
 obtain⟨l,ts,_,_,_,hp⟩:=fg hL h
 have hm:=ua (n:=5) (by rw[Do] at hp;omega) (yu p ds es i d h hd)
 have dg:=hg d hm
 have dw:=hw d hm
 have two:∀{x y:Str},x∈xs->y∈xs++[("nil" : Str)]->wrd d=[x,y]->x∈ys/\y∈ys++[("nil" : Str)]:=fun {x y} hx hy e=>by
   rw[e] at dw
   refine⟨dw _ Aj hx,?_⟩
   rcases As.mp hy with z|z
   . exact AW _ (dw _ (Ao _ Aj) z)
   . exact AE _ z
 cases d with
 | plain q =>
   cases q with
   | row r =>
     obtain⟨x,y,rfl,hx,hy⟩:=dg
     obtain⟨h1,h2⟩:=two hx hy (by show gv "set" [x,y]=_;unfold gv;rfl)
     exact⟨x,y,rfl,h1,h2⟩
   | call=>exact dg.elim
 | cond r a b =>
   obtain⟨f,x,y,rfl,_,hx,hy⟩:=dg
   obtain⟨h1,h2⟩:=two hx hy rfl
   exact⟨f,x,y,rfl,AW _ h1,h2⟩
 | loop r F P a =>
   obtain⟨⟨f,x,y,rfl,_,hx,hy⟩,rfl,rfl⟩:=dg
   obtain⟨h1,h2⟩:=two hx hy rfl
   exact⟨f,x,y,rfl,AW _ h1,h2⟩
theorem OkD.mono {ys zs:List Str}{d:Deed}(h:OkD ys d) (e:∀y∈ys,y∈zs):OkD zs d:=by
 have e':∀{y:Str},y∈ys++[("nil" : Str)]->y∈zs++[("nil" : Str)]:=fun hy=>(As.mp hy).elim (fun z=>AW _ (e _ z)) (fun z=>AE _ z)
 cases d with
 | plain q =>
   cases q with
   | row r=>obtain⟨x,y,h1,h2,h3⟩:=h;exact⟨x,y,h1,e _ h2,e' h3⟩
   | call=>exact h.elim
 | cond r a b=>obtain⟨f,x,y,h1,h2,h3⟩:=h;exact⟨f,x,y,h1,e' h2,e' h3⟩
 | loop r F P a=>obtain⟨f,x,y,h1,h2,h3⟩:=h;exact⟨f,x,y,h1,e' h2,e' h3⟩
theorem InR.keep {X X':Hp}{b c:Tr}{s:Nat}(k:∀b o,X b=some o->(∀C d f,o≠.ins C d f)->(∀kvs,o≠.dK kvs)->X' b=some o) (h:InR X b s c):InR X' b s c:=by
 obtain⟨ts,t,h1,h2,h3,h4⟩:=h
 refine⟨ts,t,k _ _ h1 (fun _ _ _ z=>by cases z) (fun _ z=>by cases z),h2,h3,?_⟩
 rcases h4 with⟨g1,cc,i,o,g2,g3⟩|⟨g1,g2,cc,d,g3⟩
 . exact .inl ⟨g1,cc,i,o,k _ _ g2 (fun _ _ _ z=>by cases z) (fun _ z=>by cases z),g3⟩
 . exact .inr ⟨g1,g2,cc,d,k _ _ g3 (fun _ _ _ z=>by cases z) (fun _ z=>by cases z)⟩
theorem Td.keep {X X':Hp}{bd:Addr}{cs:List Tr}(k:∀b o,X b=some o->(∀C d f,o≠.ins C d f)->(∀kvs,o≠.dK kvs)->X' b=some o) (h:Td X bd cs):Td X' bd cs:=by
 induction h with
 | top c hl hp=>exact .top c hl hp
 | deep c b r s h hi ih=>exact .deep c b r s ih (hi.keep k)
theorem TSt.keep {K:Ab}{X X' H:Hp}{bd cl:Addr}{cs:List Tr}(h:TSt K X H bd cl cs) (e:Same X' X) (k:∀b o,X b=some o->(∀C d f,o≠.ins C d f)->(∀kvs,o≠.dK kvs)->X' b=some o):TSt K X' H bd cl cs :=
 ⟨e.trans h.sX,e.free h.xl,h.hcl,fun c hc=>⟨e.free (h.at_ c hc).xc,(h.at_ c hc).hc,(h.at_ c hc).hh⟩,h.ne,h.nc,h.td.keep k⟩
structure Bo (K:Ab) (CM CF:Addr) (X H:Hp) (m dm pd fl cd p pr nd bd bd2 cl vd:Addr) (fm:List (Str×V)) (g:Int) (ys zs:List Str) (ds:List Deed) (j:Nat) (F:Str->Int) (pp:Pre) (k:Nat) (c:Tr) (r:List Tr):Prop where
 M:M1 K CM CF X H m dm pd fl cd p pr nd bd fm g ys F pp k j
 T:TSt K X H bd2 cl (c::r)
 ec:(c.pp,c.k)=(pp,k)
 hv:H vd=some (.dK (vK zs F))
 at_:AtP ds pp k
structure Bc (K:Ab) (X:Hp) (bd bd2 nd vd:Addr) (ys zs:List Str) (ds:List Deed):Prop where
 L:ListX K X (B 5) bd ds
 L2:ListX K X (B 5) bd2 ds
 A:AllD ys ds
 A2:AllD zs ds
 xv:X vd=none
 nv:nd≠vd
 lz:zs.length<=20
 nz:¬ ("nil" : Str)∈zs
variable {K:Ab}{CM CF:Addr}{X H H1:Hp}{m dm pd fl cd p pr nd bd bd2 cl vd:Addr}{fm:List (Str×V)}{g:Int}{ys zs:List Str}{ds:List Deed}{j:Nat}{F F':Str->Int}{pp pp':Pre}{k k':Nat}{c:Tr}{r:List Tr}
theorem Bo.same (b:Bo K CM CF X H m dm pd fl cd p pr nd bd bd2 cl vd fm g ys zs ds j F pp k c r) (e:Same H H1):Bo K CM CF X H1 m dm pd fl cd p pr nd bd bd2 cl vd fm g ys zs ds j F pp k c r:=⟨b.M.same e,b.T.same e,b.ec,e _ _ b.hv,b.at_⟩
theorem M1.kpV (M:M1 K CM CF X H m dm pd fl cd p pr nd bd fm g ys F pp k j) (T:TSt K X H bd2 cl (c::r)) (hv:H vd=some (.dK (vK zs F'))) (nv:nd≠vd) (sX:Same X H1) (kp:KpV cl vd (c::r) H H1):M1 K CM CF X H1 m dm pd fl cd p pr nd bd fm g ys F pp k j:=by
 have ncl:∀{b:Addr} {o:HO},H b=some o->(∀l,o≠.lst l)->b≠cl/\b∉(c::r).map (·.ce):=fun {b o} h ho=>⟨fun z=>(by rw[z,T.hcl] at h;exact ho _ (Av h).symm),fun z=>by
   obtain⟨d,hd,e⟩:=AF.mp z
   have y:=(T.at_ d hd).hc
   rw[show d.ce=b from e,h] at y
   exact ho _ (Av y)⟩
 obtain⟨dx,fs,pt,h1,h2,h3,h4⟩:=M.hp
 have n1:=ncl h1 (fun _ z=>by cases z)
 have n2:=ncl M.hnd (fun _ z=>by cases z)
 refine⟨sX,M.np,M.nn,M.hm,M.mf,M.hfl,M.hcd,M.hpr,⟨dx,fs,pt,kp _ _ h1 n1.1 n1.2 (fun z=>by rw[z,hv] at h1;cases h1),h2,h3,j8 h4 fun o g1 g2 g3 g4=>?_⟩,kp _ _ M.hnd n2.1 n2.2 nv,M.ly,M.lp⟩
 have n3:=ncl g1 g4
 exact kp _ _ g1 n3.1 n3.2 fun z=>by rw[z,hv] at g1;exact g3 _ (Av g1).symm
theorem TSt.kpP (T:TSt K X H bd2 cl (c::r)) (M:M1 K CM CF X H m dm pd fl cd p pr nd bd fm g ys F pp k j) (sX:Same X H1) (kp:KpP p nd H H1):TSt K X H1 bd2 cl (c::r):=by
 obtain⟨dx,fs,pt,h1,_⟩:=M.hp
 have nn:∀{b:Addr} {o:HO},H b=some o->(∀C d f,o≠.ins C d f)->(∀kvs,o≠.dK kvs)->H1 b=some o:=fun {b o} h i1 i2=>kp _ _ h (fun z=>by rw[z,h1] at h;exact i1 _ _ _ (Av h).symm) (fun z=>by rw[z,M.hnd] at h;exact i2 _ (Av h).symm)
 exact⟨sX,T.xl,nn T.hcl (fun _ _ _ z=>by cases z) (fun _ z=>by cases z),fun d hd=>⟨(T.at_ d hd).xc,nn (T.at_ d hd).hc (fun _ _ _ z=>by cases z) (fun _ z=>by cases z),j8 (T.at_ d hd).hh fun o g1 g2 g3 _=>nn g1 g2 g3⟩,T.ne,T.nc,T.td⟩
theorem Bo.both {Q:VK}{E:XK}(b:Bo K CM CF X H m dm pd fl cd p pr nd bd bd2 cl vd fm g ys zs ds j F pp k c r) (bc:Bc K X bd bd2 nd vd ys zs ds) (hj:j<=39)
   (q:∀H1,(∀(Q':VK) (E':XK),(∀H2 j' F' pp' k' c' r',j'<=j+1->Bo K CM CF X H2 m dm pd fl cd p pr nd bd bd2 cl vd fm g ys zs ds j' F' pp' k' c' r'->Q' .non H2)->spStepL K [.ref cl,.ref vd] H1 Q' E')->Q .non H1):spStep K CM CF [.ref m] H Q E:=by
 obtain⟨M,T,ec,hv,es,hes,hk,hend⟩:=b
 obtain⟨ec1,ec2⟩:=HZ ec
 obtain⟨l,ts,f1,f2,f3,f4⟩:=fg bc.L hes
 have g1:=T.td.from c r rfl
 rw[ec1] at g1
 obtain⟨l2,ts2,g0,g2,g3,_⟩:=fg bc.L2 hes
 have e2:=g0.uniq g1
 subst e2
 rw[Do] at f4
 by_cases z:k<es.length
 . obtain⟨t,ht⟩:∃t,ts[k]? = some t:=⟨_,Ai (by omega)⟩
   obtain⟨t2,ht2⟩:∃t,ts2[k]? = some t:=⟨_,Ai (by omega)⟩
   obtain⟨es1,d1,a1,a2,a3,a4⟩:=a75 (F:=F) bc.L bc.A f1 f2 ht
   obtain⟨es2,d2,b1,b2,b3,b4⟩:=a75 (F:=F) bc.L2 bc.A2 g0 g2 ht2
   rw[hes] at a1 b1
   cases a1;cases b1
   rw[a2] at b2;cases b2
   have hdue:AtP ds (dueR ds (i9 F pp k d1).1.reverse (i9 F pp k d1).2).1 (dueR ds (i9 F pp k d1).1.reverse (i9 F pp k d1).2).2:=by
     have key:∀{F':Str->Int} {due:Pre×Nat},DoN K X bd ys F pp k t F' due->AtP ds due.1 due.2:=fun h=>by
       cases h with
       | set x y _ e ht hx hy hs=>exact ww bc.L hs
       | branch wd r' x y c' u2 u3 _ e hw ht hc hx hy hs=>exact ww bc.L hs
     exact key a3
   generalize dueR ds (i9 F pp k d1).1.reverse (i9 F pp k d1).2=due at a3 a4 b3 b4 hdue
   refine .go X m dm pd fl cd p pr nd bd l t fm g ys F _ pp k j due ts rfl M (by omega) f1 f2 ht a3 (by omega) fun H1 M' kp=>?_
   have T':=T.kpP M M'.sX kp
   have hv':H1 vd=some (.dK (vK zs F)):=kp _ _ hv (fun z=>by
     obtain⟨dx,fs,pt,h1,_⟩:=M.hp
     rw[<- z,hv] at h1;cases h1) (AO bc.nv)
   refine q H1 fun Q' E' q'=>?_
   refine .go X bd2 cl vd t2 c r ts2 zs F _ due rfl T' (by rw[ec1];omega) g2 (by rw[ec2];exact ht2) bc.xv hv' bc.lz bc.nz (by rw[ec1,ec2];exact b3) fun H2 c' r' T2 e' hv2 kv _=>?_
   exact q' H2 (j+1) _ due.1 due.2 c' r' (Ah _) ⟨M'.kpV T' hv' bc.nv T2.sX kv,T2,e',hv2,hdue⟩
 . have hpp:pp=[]:=by
     cases pp with
     | nil=>rfl
     | cons x y=>exact absurd (hend (by simp)) z
   have hke:k=es.length:=by omega
   refine .fin X m dm pd fl cd p pr nd bd l fm g ys F pp k j ts rfl M (by omega) f1 f2 (by omega) fun H1 e=>?_
   have T':=T.same e
   have M':=M.same e
   have hv':=e _ _ hv
   refine q H1 fun Q' E' q'=>?_
   obtain⟨e0,st,_⟩:=j7 bc.L2 hes hk
   have hd:dueR ds pp.reverse k=(pp,k):=by rw[hpp];rfl
   rw[hd] at st
   refine .fin X bd2 cl vd c r ts2 (pp,k) e0 rfl T' g2 (by rw[ec2];omega) (by rw[ec1,ec2];exact st) fun H2 c' r' T2 e' kt _=>?_
   have kv:KpV cl vd (c::r) H1 H2:=fun b o h n1 n2 _=>kt b o h n1 n2
   have nvc:vd≠cl/\vd∉(c::r).map (·.ce):=⟨fun z=>(by rw[z,T'.hcl] at hv';cases hv'),fun z=>by
     obtain⟨d,hd,e⟩:=AF.mp z
     have y:=(T'.at_ d hd).hc
     rw[show d.ce=vd from e,hv'] at y;cases y⟩
   exact q' H2 j F pp k c' r' (CD _) ⟨M'.kpV T' hv' bc.nv T2.sX kv,T2,e',kt _ _ hv' nvc.1 nvc.2,⟨es,hes,hk,hend⟩⟩
theorem qw {x:Str}(h:bx x=true):Short x:=by
 unfold bx at h
 split at h
 . cases h
 . rename_i hn
   have:¬ 8<x.length:=fun z=>hn (.inr (.inl z))
   show x.length<=1000
   omega
theorem za {ys:List Str}{f:Str->Int}:∀{zs:List Str},(∀z∈zs,z∈ys)->(gf (vK ys f) zs).map kk=vK zs f
 | [],_=>rfl
 | z::zs,h=>by
   have ih:=za (f:=f) fun y hy=>h y (Ao _ hy)
   unfold gf vK at ih |-
   rw[AA,AA,AA,ih]
   have e:=mn (f:=f) (h z (Aj ..))
   unfold vK at e
   rw[e];rfl
theorem set_short:(("set" : Str)).length<=1000/\(("nil" : Str)).length<=1000/\(("" : Str)).length<=1000/\(("is" : Str)).length<=1000/\(("not" : Str)).length<=1000:=by decide +kernel
theorem no_nil:bx ("nil" : Str)=false/\bx ("" : Str)=false:=by decide +kernel
theorem a80 (ns:List Int):∃ms:List Int,cutV (ns.map V.int) (some 8) (some 36)=ms.map V.int/\ms.length<=28:=by
 refine⟨(ns.drop (HT.sIx ns.length 0 (some ((8:Nat):Int)))).take (HT.sIx ns.length ns.length (some ((36:Nat):Int)) - HT.sIx ns.length 0 (some ((8:Nat):Int))),?_,?_⟩
 . unfold cutV
   rw[Hk,IK,Ac];rfl
 . rw[AS,HT.sIx_nat,HT.sIx_nat];omega
section
variable {K:Ab}{G G':Hp}
theorem RowsAt.keep (k:∀b o,G b=some o->(∀C d f,o≠.ins C d f)->(∀kvs,o≠.dK kvs)->G' b=some o) {a:Addr}{rs:List (List Str)}(h:RowsAt K G a rs):RowsAt K G' a rs:=by
 obtain⟨as,h1,h2⟩:=h
 exact⟨as,k _ _ h1 (fun _ _ _ z=>by cases z) (fun _ z=>by cases z),Paired.mapP h2 fun b r z=>j8 z fun o g1 g2 g3 _=>k _ _ g1 g2 g3⟩
theorem DeedX.keep (k:∀b o,G b=some o->(∀C d f,o≠.ins C d f)->(∀kvs,o≠.dK kvs)->G' b=some o) {L L':Addr->List Deed->Prop}{t:Addr}{d:Deed}(h:DeedX K G L t d) (hL:∀l ds,L l ds->L' l ds):DeedX K G' L' t d:=by
 have kt:∀{b:Addr} {vs:List V},G b=some (.tup vs)->G' b=some (.tup vs):=fun h=>k _ _ h (fun _ _ _ z=>by cases z) (fun _ z=>by cases z)
 cases h with
 | plain p h1 h2 =>
   refine .plain p ?_ h2
   cases p with
   | row r=>exact kt h1
   | call x c vs=>obtain⟨v,g1,g2⟩:=h1;exact⟨v,kt g1,kt g2⟩
 | cond c i o r a b h hc okr hi ho=>exact .cond c i o r a b (kt h) (kt hc) okr (hL _ _ hi) (hL _ _ ho)
 | loop c td i fa pa r F P a h hc okr htd hF hP okF okP lF lP hi=>exact .loop c td i fa pa r F P a (kt h) (kt hc) okr (kt htd) (RowsAt.keep k hF) (RowsAt.keep k hP) okF okP lF lP (hL _ _ hi)
theorem ListX.keep (k:∀b o,G b=some o->(∀C d f,o≠.ins C d f)->(∀kvs,o≠.dK kvs)->G' b=some o):∀{bs:List Nat}{l:Addr}{ds:List Deed},ListX K G bs l ds->ListX K G' bs l ds
 | [],_,_,h=>h.elim
 | b::bs,l,ds,h=>by
   obtain⟨ts,h1,h2,h3⟩:=h
   exact⟨ts,k _ _ h1 (fun _ _ _ z=>by cases z) (fun _ z=>by cases z),Paired.mapP h2 fun _ _ z=>z.keep k fun _ _ y=>ListX.keep k y,h3⟩
end
noncomputable def prcL (nm:Str) (ps:List Str) (ds:List Deed):Prc:=⟨nm,"",ps,[],[],[],[],ds⟩
theorem tok0 (xs:List Str):TOk xs [] []:=⟨⟨AG _,fun _ h=>(by cases h)⟩,⟨AG _,fun _ h=>(by cases h)⟩,fun _ h=>(by cases h),fun _ h=>(by cases h)⟩
theorem a2v {xs:List Str}{d:Deed}(h:DG xs d) {y:Str}(hy:y∈wrd d):y∈xs++[("nil" : Str)]:=by
 have two:∀{x z:Str},x∈xs->z∈xs++[("nil" : Str)]->y∈[x,z]->y∈xs++[("nil" : Str)]:=fun hx hz h=>by
   simp only[Al,AN,or_false] at h
   rcases h with rfl|rfl
   . exact AW _ hx
   . exact hz
 cases d with
 | plain q =>
   cases q with
   | row r =>
     obtain⟨x,z,rfl,hx,hz⟩:=h
     exact two hx hz (by have e:wrd (.plain (.row ["set",x,z]))=[x,z]:=(by show gv "set" [x,z]=_;unfold gv;rfl)
                         rw[e] at hy;exact hy)
   | call=>exact h.elim
 | cond r a b=>obtain⟨f,x,z,rfl,_,hx,hz⟩:=h;exact two hx hz hy
 | loop r F P a=>obtain⟨⟨f,x,z,rfl,_,hx,hz⟩,rfl,rfl⟩:=h;exact two hx hz hy
theorem a9y {xs:List Str}(hn:∀x∈xs,bx x=true) {d:Deed}(h:DG xs d):DOk xs d:=by
 have sx:∀{x:Str},x∈xs->Short x:=fun hx=>qw (hn _ hx)
 have sy:∀{x:Str},x∈xs++[("nil" : Str)]->Short x:=fun hx=>(As.mp hx).elim sx fun z=>by rw[Au.mp z];exact set_short.2.1
 have rok:∀{r:List Str},ie xs r->ROk r:=fun h=>by
   obtain⟨f,x,y,rfl,hf,hx,hy⟩:=h
   refine⟨rfl,fun z hz=>?_⟩
   simp only[Al,AN,or_false] at hz
   rcases hz with rfl|rfl|rfl
   . rcases hf with rfl|rfl
     . exact set_short.2.2.2.1
     . exact set_short.2.2.2.2
   . exact sx hx
   . exact sy hy
 cases d with
 | plain q =>
   cases q with
   | row r =>
     obtain⟨x,y,rfl,hx,hy⟩:=h
     intro z hz
     simp only[Al,AN,or_false] at hz
     rcases hz with rfl|rfl|rfl
     . exact set_short.1
     . exact sx hx
     . exact sy hy
   | call=>exact h.elim
 | cond r a b=>exact rok h
 | loop r F P a=>obtain⟨h1,rfl,rfl⟩:=h;exact⟨rok h1,tok0 xs⟩
theorem allW_prc {nm:Str}{ps:List Str}{ds:List Deed}{y:Str}:y∈allW (B 5) (prcL nm ps ds)↔y∈ps\/y = "" \/ y∈(allL (B 5) ds).flatMap wrd:=by
 have e:allW (B 5) (prcL nm ps ds)=ps++[("" : Str)]++[]++[]++(allL (B 5) ds).flatMap wrd:=rfl
 rw[e,BZ,BZ,As,As,Au,or_assoc]
theorem a94 {xs ps:List Str}{nm:Str}{ds:List Deed}(hx:xs.length=6) (hn:∀x∈xs,bx x=true) (hp:∀y∈ps,y∈xs) (hl:ps.length<=8) (hg:Gd xs ds 28):PrcOk (B 5) xs (prcL nm ps ds):=by
 refine⟨⟨hl,fun y hy=>qw (hn _ (hp y hy))⟩,set_short.2.2.1,tok0 xs,tok0 xs,fun d hd=>a9y hn (hg.ok _ d hd),Ax (hg.len _) (by decide),by omega,fun y hy hi=>?_⟩
 rcases allW_prc.mp hy with z|z|z
 . exact hp y z
 . rw[z,no_nil.2] at hi;cases hi
 . obtain⟨d,hd,h⟩:=Bh.mp z
   rcases As.mp (a2v (hg.ok _ d hd) h) with q|q
   . exact q
   . rw[Au.mp q,no_nil.1] at hi;cases hi
noncomputable abbrev sLaw:Stmt:=top 48
theorem scLaw:FnScope ["_law_script","_law_names_here","_law_pick","_law_params","_law_body_here","_law_said_here","_law_name","_law_values","_law_k","_law_digits","_law_way","_law_path_here","_law_program","_law_machine","_law_todo","_law_turn"] ["_law_script"] (au sLaw):=⟨rfl,rfl,rfl,by decide +kernel,rfl,by decide +kernel,by decide +kernel⟩
theorem a8y {n:Nat}(hn8:8<=n) (C:Con K mg w) (T:TxM K mg CM fI) (U:TxF K mg CF fJ) (F:Fun K "law" "law" sLaw f fd)
   (GC:FnOk P w K mg base CX0 1 gC dC ["_law_script","_law_k"] (a4f K)) (cC:Cal K mg "_law_cell_at" gC dC ["_law_script","_law_k"])
   (GN:FnOk P w K mg base CX0 3 gN dN ["_law_base","_law_place_here","_law_many"] spNm) (cN:Cal K mg "_law_names" gN dN ["_law_base","_law_place_here","_law_many"])
   (GB:FnOk P w K mg base CX0 3 gB dB ["_law_cells","_law_own","_law_every"] (spBody K)) (cB:Cal K mg "_law_body" gB dB ["_law_cells","_law_own","_law_every"])
   (GA:FnOk P w K mg base CX0 6 gA dA ["_law_deeds","_law_found"] (spSaid K (B 5))) (cA:Cal K mg "_law_said" gA dA ["_law_deeds","_law_found"])
   (GF:FnOk P w K mg base CX0 2 gF dF ["_law_cell","_law_k"] ux) (cF:Cal K mg "_law_fed" gF dF ["_law_cell","_law_k"])
   (GD:FnOk P w K mg base CX0 1 gD dD ["_law_digits","_law_many"] og) (cD:Cal K mg "_law_digit" gD dD ["_law_digits","_law_many"])
   (GP:FnOk P w K mg base CX0 1 gP dP ["_law_body_here","_law_cell"] (spPath K)) (cP:Cal K mg "_law_path" gP dP ["_law_body_here","_law_cell"])
   (GO:FnOk P w K mg base CX0 1 gO dO ["_law_body_here","_law_path_here"] (spOpened K)) (cO:Cal K mg "_law_opened" gO dO ["_law_body_here","_law_path_here"])
   (GE:FnOk P w K mg base CX0 1 gE dE ["_law_todo"] (spSettle K)) (cE:Cal K mg "_law_settle" gE dE ["_law_todo"])
   (GT:FnOk P w K mg base CX0 7 gT dT ["_law_machine","_law_name","_law_todo","_law_values"] (spStands K CM CF)) (cT:Cal K mg "_law_stands" gT dT ["_law_machine","_law_name","_law_todo","_law_values"])
   (GL:FnOk P w K mg base CX0 3 gL dL ["_law_todo","_law_values"] (spStepL K)) (cL:Cal K mg "_law_step" gL dL ["_law_todo","_law_values"])
   (GI:FnOk P w K mg base CX0 n fI dI ["self","program","name","path","values","heap"] (spMInit K CM CF (B 5))) (bI:Binds K dI ["self","program","name","path","values","heap"] [])
   (GS:FnOk P w K mg base CX0 8 gS dS ["self"] (spStep K CM CF)) (cS:MCal K CM "step" gS dS ["self"]):FnOk P w K mg base CX0 (n+1+1) f fd ["_law_script"] (v7 K):=by
 refine F.okQ scLaw (fun vs H Q E h=>?_) (fun cdv A outer s0 H vs Q E hr h=>?_)
 . obtain⟨_,_,rfl,_⟩:=h;rfl
 have nd:=scLaw.nd
 have hu1:=dn hr
 have hr1:=hr.mono (j:=1) (by omega)
 have hr2:=hr.mono (j:=2) (by omega)
 have hr3:=hr.mono (j:=3) (by omega)
 have hr6:=hr.mono (j:=6) (by omega)
 have hr7:=hr.mono (j:=7) (by omega)
 have hr8:=hr.mono (j:=8) (by omega)
 refine⟨_,ae (ar (i:=1) nd rfl (Or.inl rfl) (aq GN hr3 rfl cN.name cN.keep cN.bind .nil ap (bi (aq GC hr1 rfl cC.name cC.keep cC.bind .nil ap (aj (qv 0) (b9 a0))) (bi (aq GC hr1 rfl cC.name cC.keep cC.bind .nil ap (aj (qv 0) (b9 a0))) (b9 a0)))))
   (ae (ar (i:=2) nd rfl (Or.inl rfl) (aq GC hr1 rfl cC.name cC.keep cC.bind .nil ap (aj (qv 0) (b9 a0))))
   (ae (ar (i:=3) nd rfl (Or.inl rfl) (be kx rfl C.tuple FP (az (cj (pj (K:=K) rfl) (qv 1) dj (cr (ax cn (qv 2) ab))) a0)))
   (ae (ar (i:=4) nd rfl (Or.inl rfl) (aq GB hr3 rfl cB.name cB.keep cB.bind .nil ap (az (cj (pj (K:=K) rfl) (qv 0) (cr ab) (cr ab)) (az (cj (pj (K:=K) rfl) (qv 1) (cr (ax cn (qv 2) ab)) dj) (aj (qv 1) a0)))))
   (ae (ar (i:=5) nd rfl (Or.inl rfl) my)
   (ae (dv AH rfl (zi (K:=K) rfl (qv 3)) (bo (i:=6) nd rfl (Or.inl rfl)) (ai (di hu1 (qv 5) (qv 6) ge)))
   (ae (bp (aq GA hr6 rfl cA.name cA.keep cA.bind .nil ap (aj (qv 4) (aj (qv 5) a0))))
   (ae (ar (i:=7) nd rfl (Or.inl rfl) my)
   (ae (dv AH rfl (jd rfl C.range (b9 a0)) (bo (i:=8) nd rfl (Or.inl rfl)) (ae (bg (aw bb (ax cn (qv 8) ab) ab (av _)) (ai (ar (i:=9) nd rfl (Or.inl rfl) (aq GF hr2 rfl cF.name cF.keep cF.bind .nil ap (bi (aq GC hr1 rfl cC.name cC.keep cC.bind .nil ap (aj (qv 0) (dq (ax cg ab (ax et (qv 8) ab)) a0))) (dq (ax cg ab (qv 8)) a0))))) bq)
   (ae (ar (i:=10) nd rfl (Or.inl rfl) (aq GD hr1 rfl cD.name cD.keep cD.bind .nil ap (aj (qv 9) (b9 a0))))
   (ai (bg (a9k hu1 (af (ixK (K:=K) rfl) (qv 1) (qv 8) (fun _ _=>rfl)) (qv 5)) (ai (di hu1 (qv 7) (af (ixK (K:=K) rfl) (qv 1) (qv 8) (fun _ _=>rfl)) (af (ixK (K:=K) rfl) (bw (b9 (b9 (b9 (b9 (bi (aq GD hr1 rfl cD.name cD.keep cD.bind .nil ap (aj (qv 9) (dq (ax aac ab ab) a0))) (b9 (b9 (b9 a0))))))))) (qv 10) (fun _ _=>rfl)))) bq)))))
   (ae (ar (i:=11) nd rfl (Or.inl rfl) (cf (b9 a0)))
   (ae (bg (aw bb (ax cn (ax et (qv 2) ab) ab) ab (av _)) (ai (ar (i:=11) nd rfl (Or.inl rfl) (aq GP hr1 rfl cP.name cP.keep cP.bind .nil ap (aj (qv 4) (bi (aq GC hr1 rfl cC.name cC.keep cC.bind .nil ap (aj (qv 0) (b9 a0))) a0))))) bq)
   (ae (ar (i:=6) nd rfl (Or.inl rfl) (af (ixK (K:=K) rfl) (qv 1) (ax cn (ax et (qv 2) ab) ab) (fun _ _=>rfl)))
   (ae (ar (i:=12) nd rfl (Or.inl rfl) (bw (jv (aj (qv 6) (aj (qv 3) (c6 (jv (fh a0 (fh a0 a0)) (jv (fh a0 (fh a0 a0)) (aj (qv 4) a0)))))) a0)))
   (ae (ar (i:=13) nd rfl (Or.inl rfl) (yq T.mkC GI hr rfl T.mgC bI .nil ap (aj (qv 12) (aj (qv 6) (aj (qv 11) (bi (be ig rfl C.dict BE (aj (qv 7) a0)) (bv my a0)))))))
   (ae (ar (i:=14) nd rfl (Or.inl rfl) (aq GO hr1 rfl cO.name cO.keep cO.bind .nil ap (aj (qv 4) (aj (qv 11) a0))))
   (ae (bp (aq GE hr1 rfl cE.name cE.keep cE.bind .nil ap (aj (qv 14) a0)))
   (ae (dv AH rfl (jd rfl C.range (bi (bf (a2b rfl) rfl C.min PyProof.Rows.Boot.min (b9 (dq (ax cn (aq GC hr1 rfl cC.name cC.keep cC.bind .nil ap (aj (qv 0) (b9 a0))) ab) a0))) a0)) (bo (i:=15) nd rfl (Or.inl rfl)) (ae (bg (mh (ft (aq GT hr7 rfl cT.name cT.keep cT.bind .nil ap (aj (qv 13) (aj (qv 6) (aj (qv 14) (aj (qv 7) a0))))))) (ai (b5 ge)) bq)
   (ae (bp (dt (qv 13) T.cl cS.meth GS hr8 cS.bind .nil ap))
   (ai (bp (aq GL hr3 rfl cL.name cL.keep cL.bind .nil ap (aj (qv 14) (aj (qv 7) a0))))))))
   (ai (b5 (aq GT hr7 rfl cT.name cT.keep cT.bind .nil ap (aj (qv 13) (aj (qv 6) (aj (qv 14) (aj (qv 7) a0))))))))))))))))))))))),?_⟩
 obtain⟨a,ns,rfl,hS,q⟩:=h
 have modN:∀(x:Int) (m:Int),0<m->∃j:Nat,x % m=(j:Int)/\(j:Int)<m:=fun x m hm=>⟨(x % m).toNat,by have:=Ca x (HG hm);omega,by have:=Ca x (HG hm);have:=BQ x hm;omega⟩
 refine ak (a:=tAsg _ _) fun A1 hA1 _ _=>?_
 refine⟨_,rfl,a,ns,0,rfl,hS,_,rfl,a,ns,1,rfl,hS,.mk _ _ 6 rfl (by decide) fun nl xs H1 e1 knl hx6 hxn hxs=>?_⟩
 refine hA1 [some (.ref a),some (.ref nl),none,none,none,none,none,none,none,none,none,none,none,none,none,none] _ ?_
 clear hA1
 refine ak (a:=tAsg _ _) fun A2 hA2 _ _=>?_
 refine⟨_,rfl,a,ns,2,rfl,e1.seq hS,?_⟩
 generalize fb ns 2=pk
 refine hA2 [some (.ref a),some (.ref nl),some (.int pk),none,none,none,none,none,none,none,none,none,none,none,none,none] _ ?_
 clear hA2
 obtain⟨np,hnp,hnp3⟩:=modN pk 3 (by decide)
 have hnp2:np<=2:=by omega
 refine ak (a:=tAsg _ _) fun A3 hA3 _ _=>?_
 refine⟨_,rfl,_,rfl,_,_,rfl,rfl,(show (0:Int)<3 by decide),?_⟩
 refine⟨(np:Int),congrArg V.int hnp,nl,_,rfl,SqL.of knl,fun p1 hp1=>?_⟩
 rw[a69 xs np (by omega)]
 have s2:=ad hp1 (.lst ((xs.take np).map V.str))
 have k2:(upd H1 p1 (.lst ((xs.take np).map V.str))) p1=some (.lst ((xs.take np).map V.str)):=aa
 generalize upd H1 p1 (.lst ((xs.take np).map V.str))=H2 at s2 k2 |-
 refine⟨p1,_,rfl,.inl ⟨SqL.of k2,fun pa hpa=>?_⟩⟩
 have s3:=ad hpa (.tup ((xs.take np).map V.str))
 have k3:(upd H2 pa (.tup ((xs.take np).map V.str))) pa=some (.tup ((xs.take np).map V.str)):=aa
 dsimp only[ba]
 generalize upd H2 pa (.tup ((xs.take np).map V.str))=H3 at s3 k3 |-
 refine hA3 [some (.ref a),some (.ref nl),some (.int pk),some (.ref pa),none,none,none,none,none,none,none,none,none,none,none,none] _ ?_
 clear hA3
 have e13:=s2.trans s3
 refine ak (a:=tAsg _ _) fun A4 hA4 _ _=>?_
 refine⟨_,rfl,_,rfl,_,rfl,a,_,rfl,(e1.trans e13).seq hS,fun p2 hp2=>?_⟩
 obtain⟨ms,hms,hml⟩:=a80 ns
 rw[hms]
 have s4:=ad hp2 (.lst (ms.map V.int))
 have k4:(upd H3 p2 (.lst (ms.map V.int))) p2=some (.lst (ms.map V.int)):=aa
 generalize upd H3 p2 (.lst (ms.map V.int))=H4 at s4 k4 |-
 refine⟨_,rfl,_,rfl,_,_,rfl,rfl,(show (0:Int)<3 by decide),?_⟩
 refine⟨(np:Int),congrArg V.int hnp,nl,_,rfl,SqL.of ((e13.trans s4) _ _ knl),fun p3 hp3=>?_⟩
 rw[a5r,<- IK]
 have s5:=ad hp3 (.lst ((xs.drop np).map V.str))
 have k5:(upd H4 p3 (.lst ((xs.drop np).map V.str))) p3=some (.lst ((xs.drop np).map V.str)):=aa
 generalize upd H4 p3 (.lst ((xs.drop np).map V.str))=H5 at s5 k5 |-
 have e15:=(e13.trans s4).trans s5
 refine⟨_,rfl,.mk p2 p3 nl ms (xs.drop np) xs rfl (s5 _ _ k4) hml k5 (fun z=>by have:=congrArg IX z;rw[Ba,DD] at this;omega) (fun y hy=>CU hy) (by rw[Ba];omega) (e15 _ _ knl) hx6 hxs fun bd2 ds H6 e6 hL hg=>?_⟩
 dsimp only[ba]
 refine hA4 [some (.ref a),some (.ref nl),some (.int pk),some (.ref pa),some (.ref bd2),none,none,none,none,none,none,none,none,none,none,none] _ ?_
 clear hA4
 have knl6:=e6 _ _ (e15 _ _ knl)
 have kpa6:=e6 _ _ ((s4.trans s5) _ _ k3)
 have hS6:=((e1.trans e15).trans e6).seq hS
 clear s2 s3 s4 s5 k2 k3 k4 k5 e6 e15 e13 e1 hp1 hpa hp2 hp3 hms hml
 refine ak (a:=tAsg _ _) fun A5 hA5 _ _=>?_
 intro so hso
 have F0:FD H6 (upd H6 so (.dK [])) so xs [] []:=⟨ad hso _,aa,DS,fun y=>HJ,fun _ h=>by cases h⟩
 dsimp only[ba]
 generalize upd H6 so (.dK [])=H7 at F0 |-
 refine hA5 [some (.ref a),some (.ref nl),some (.int pk),some (.ref pa),some (.ref bd2),some (.ref so),none,none,none,none,none,none,none,none,none,none] _ ?_
 clear hA5
 refine ak (a:=tFor _ _ _) fun A6 hA6 _ _=>?_
 refine⟨_,rfl,pa,rfl,⟨_,SqT.of (F0.e _ _ kpa6)⟩,?_⟩
 refine a08 (xs:=(xs.take np).map V.str) (fun i σ G=>∃(S:List Str) (z6:Option V),σ=[some (.ref a),some (.ref nl),some (.int pk),some (.ref pa),some (.ref bd2),some (.ref so),z6,none,none,none,none,none,none,none,none,none]/\FD H6 G so xs S ((xs.take np).take i)) ⟨[],none,rfl,by rw[DT];exact F0⟩ ?_ ?_ ?_
 . rintro i σ G hi ⟨S,z6,rfl,F⟩
   exact SqT.of (F.e _ _ kpa6)
 . rintro i x σ G hx ⟨S,z6,rfl,F⟩
   rw[Ak] at hx
   obtain⟨y,hy,rfl⟩:=Be.mp hx
   have hyx:y∈xs:=BS (AQ hy)
   refine⟨_,rfl,_,rfl,so,_,rfl,DPut.k (k:=Sum.inr y) F.k (F.len (Et hx6)),?_⟩
   rw[lv]
   refine⟨addL S y,_,rfl,?_⟩
   rw[GV (l:=xs.take np),hy]
   exact F.put hso (AW _ hyx)
 rintro σ G ⟨S0,z6,rfl,F1⟩
 refine hA6 _ _ ?_
 clear hA6 F0
 rw[Ac,BD] at F1
 refine ak (a:=j4 _) fun A7 hA7 _ _=>?_
 refine⟨_,rfl,_,rfl,.mk H6 bd2 so ds xs S0 _ rfl hso hL (hg.ok (B 5)) (Et hx6) F1 fun S G1 _ F2=>?_⟩
 refine hA7 [some (.ref a),some (.ref nl),some (.int pk),some (.ref pa),some (.ref bd2),some (.ref so),z6,none,none,none,none,none,none,none,none,none] _ ?_
 clear hA7 F1
 refine ak (a:=tAsg _ _) fun A8 hA8 _ _=>?_
 intro vd hvd
 have sv:=ad hvd (.dK [])
 have kv:(upd G1 vd (.dK [])) vd=some (.dK (vK [] fun _=>0)):=aa
 dsimp only[ba]
 generalize upd G1 vd (.dK [])=G2 at sv kv |-
 refine hA8 [some (.ref a),some (.ref nl),some (.int pk),some (.ref pa),some (.ref bd2),some (.ref so),z6,some (.ref vd),none,none,none,none,none,none,none,none] _ ?_
 clear hA8
 have e6G:=F2.e
 refine ak (a:=tFor _ _ _) fun A9 hA9 _ _=>?_
 refine⟨6,rfl,(by decide),(by decide),?_⟩
 refine ib (fun i σ G=>∃(f0:Str->Int) (z8 z9 z10:Option V),σ=[some (.ref a),some (.ref nl),some (.int pk),some (.ref pa),some (.ref bd2),some (.ref so),z6,some (.ref vd),z8,z9,z10,none,none,none,none,none]/\Same G1 G/\G vd=some (.dK (vK ((xs.take i).filter fun y=>decide (y∈S)) f0))/\(i % 2=1->∃dl nn,z9=some (.ref dl)/\G1 dl=none/\dl≠vd/\G dl=some (.lst [.int nn]))) ⟨fun _=>0,none,none,none,rfl,sv,by rw[DT];exact kv,fun z=>by cases z⟩ ?_ ?_
 . rintro i σ G hi ⟨f0,z8,z9,z10,rfl,eG,kvd,hdl⟩
   have hi6:i<6:=hi
   rw[Int.zero_add]
   dsimp only[ba]
   refine ak (a:=tIfS _ _ _) fun B1 hB1 _ _=>?_
   have tail:∀(dl:Addr) (nn:Int) (G:Hp),Same G1 G->G vd=some (.dK (vK ((xs.take i).filter fun y=>decide (y∈S)) f0))->G1 dl=none->dl≠vd->G dl=some (.lst [.int nn])->B1.nx [some (.ref a),some (.ref nl),some (.int pk),some (.ref pa),some (.ref bd2),some (.ref so),z6,some (.ref vd),some (.int (i:Int)),some (.ref dl),z10,none,none,none,none,none] G:=fun dl nn G eG kvd ndl nv kdl=>by
     refine hB1 _ _ ?_
     refine ak (a:=tAsg _ _) fun B2 hB2 _ _=>?_
     refine⟨_,rfl,dl,nn,8,rfl,kdl,(by decide),(by decide),?_⟩
     have eG3:Same G1 (upd G dl (.lst [.int (nn / 8)])):=fun b o z=>by rw[ah (ao z ndl)];exact eG _ _ z
     have kvd3:(upd G dl (.lst [.int (nn / 8)])) vd=some (.dK (vK ((xs.take i).filter fun y=>decide (y∈S)) f0)):=by rw[ah (AO nv)];exact kvd
     have kdl3:(upd G dl (.lst [.int (nn / 8)])) dl=some (.lst [.int (nn / 8)]):=aa
     obtain⟨wy,hwy,hwy8⟩:=modN nn 8 (by decide)
     dsimp only[ba]
     rw[hwy]
     generalize upd G dl (.lst [.int (nn / 8)])=G3 at eG3 kvd3 kdl3 |-
     generalize nn / 8=n3 at kdl3
     refine hB2 [some (.ref a),some (.ref nl),some (.int pk),some (.ref pa),some (.ref bd2),some (.ref so),z6,some (.ref vd),some (.int (i:Int)),some (.ref dl),some (.int (wy:Int)),none,none,none,none,none] _ ?_
     clear hB2
     obtain⟨y,hy⟩:∃y,xs[i]? = some y:=⟨_,Ai (by omega)⟩
     have aty:atI (xs.map V.str) (i:Int)=some (.str y):=c8 (by rw[Ak,hy];rfl)
     have tk:xs.take (i+1)=xs.take i++[y]:=by rw[GV,hy];rfl
     refine⟨_,rfl,_,rfl,nl,_,_,_,rfl,rfl,SqL.of (eG3 _ _ (e6G _ _ knl6)),aty,_,rfl,so,_,rfl,DGet.k (k:=Sum.inr y) (eG3 _ _ F2.k),_,rfl,iteB (fun c1=>?_) (fun c1=>?_)⟩
     . rw[a1o] at c1
       have e60:(0:Int)<10 ^ (60:Int).toNat/\(10:Int) ^ (60:Int).toNat<=10 ^ 60:=by decide +kernel
       refine⟨_,rfl,_,_,rfl,rfl,(show CPow 10 60 from⟨by decide,by decide,by decide⟩),dl,n3,10 ^ (60:Int).toNat,rfl,kdl3,e60.1,e60.2,?_⟩
       have eG4:Same G1 (upd G3 dl (.lst [.int (n3 / 10 ^ (60:Int).toNat)])):=fun b o z=>by rw[ah (ao z ndl)];exact eG3 _ _ z
       have kvd4:(upd G3 dl (.lst [.int (n3 / 10 ^ (60:Int).toNat)])) vd=some (.dK (vK ((xs.take i).filter fun y=>decide (y∈S)) f0)):=by rw[ah (AO nv)];exact kvd3
       have kdl4:(upd G3 dl (.lst [.int (n3 / 10 ^ (60:Int).toNat)])) dl=some (.lst [.int (n3 / 10 ^ (60:Int).toNat)]):=aa
       generalize upd G3 dl (.lst [.int (n3 / 10 ^ (60:Int).toNat)])=G4 at eG4 kvd4 kdl4 |-
       generalize n3 / 10 ^ (60:Int).toNat=n4 at kdl4
       generalize n3 % 10 ^ (60:Int).toNat=v4
       refine⟨(show 8<=sizeLine by decide),fun p4 hp4=>?_⟩
       have s5:=ad hp4 (.lst [V.int 0,V.int 0,V.int 1,V.int 2,V.int v4,V.int 1,V.int 0,V.int 2])
       have k5:(upd G4 p4 (.lst [V.int 0,V.int 0,V.int 1,V.int 2,V.int v4,V.int 1,V.int 0,V.int 2])) p4=some (.lst [V.int 0,V.int 0,V.int 1,V.int 2,V.int v4,V.int 1,V.int 0,V.int 2]):=aa
       generalize upd G4 p4 (.lst [V.int 0,V.int 0,V.int 1,V.int 2,V.int v4,V.int 1,V.int 0,V.int 2])=G5 at s5 k5 |-
       obtain⟨zv,hzv⟩:∃zv:Int,atI [V.int 0,V.int 0,V.int 1,V.int 2,V.int v4,V.int 1,V.int 0,V.int 2] (wy:Int)=some (.int zv):=by
         have h8:wy<([0,0,1,2,v4,1,0,2]:List Int).length:=by show wy<8;omega
         exact⟨_,c8 (by rw[show[V.int 0,V.int 0,V.int 1,V.int 2,V.int v4,V.int 1,V.int 0,V.int 2]=([0,0,1,2,v4,1,0,2]:List Int).map V.int from rfl,Ak,Ai h8];rfl)⟩
       have kvd5:=s5 _ _ kvd4
       refine⟨_,rfl,p4,_,_,_,rfl,rfl,SqL.of k5,hzv,_,rfl,_,rfl,_,rfl,nl,_,_,_,rfl,rfl,SqL.of ((eG4.trans s5) _ _ (e6G _ _ knl6)),aty,vd,_,rfl,DPut.k (k:=Sum.inr y) kvd5 (cx (by unfold vK;rw[Ac];exact Ax (Bx _ _) (by rw[AS];omega))),?_⟩
       have ny:¬ y∈(xs.take i).filter fun y=>decide (y∈S):=fun z=>by
         have z1:=(CK.mp z).1
         have h1:=hxn.sublist (HL (i+1) xs)
         rw[tk] at h1
         exact (List.nodup_append.mp h1).2.2 y z1 y (Au.mpr rfl) rfl
       rw[a2g ny]
       refine⟨upF f0 y zv,_,_,_,rfl,fun b o z=>?_,?_,fun _=>⟨dl,n4,rfl,ndl,nv,?_⟩⟩
       . rw[ah (ao z hvd)];exact (eG4.trans s5) _ _ z
       . rw[aa,tk,CJ,FN (p:=fun y=>decide (y∈S)) c1];rfl
       . rw[ah nv];exact s5 _ _ kdl4
     . rw[a1o] at c1
       refine⟨f0,_,_,_,rfl,eG3,?_,fun _=>⟨dl,n3,rfl,ndl,nv,kdl3⟩⟩
       rw[kvd3,tk,CJ,FO (p:=fun y=>decide (y∈S)) (by rw[c1];exact Af),FW,BZ]
   have h3:(3:Int)+(i:Int) / 2=((3+i / 2:Nat):Int):=by omega
   have h11:(11:Int)+(i:Int)=((11+i:Nat):Int):=by omega
   refine⟨_,rfl,_,_,rfl,rfl,(show (0:Int)<2 by decide),rfl,_,rfl,iteB (fun c1=>?_) (fun c1=>?_)⟩
   . refine⟨_,rfl,_,rfl,_,_,rfl,rfl,(show CDiv _ 2 from⟨by decide,by decide⟩),_,_,rfl,rfl,a,ns,3+i / 2,(show[V.ref a,V.int (3+(i:Int) / 2)]++[]=_ by rw[h3];rfl),eG.seq (e6G.seq hS6),_,rfl,_,_,rfl,rfl,fb ns (3+i / 2),11+i,(show[V.int (fb ns (3+i / 2)),V.int (11+(i:Int))]++[]=_ by rw[h11];rfl),fun dl hdl'=>?_⟩
     have ndl:G1 dl=none:=eG.free hdl'
     have nv:dl≠vd:=fun z=>by rw[z,kvd] at hdl';cases hdl'
     have s3:=ad hdl' (.lst [.int (fedF (fb ns (3+i / 2)) (11+i))])
     exact tail dl _ _ (eG.trans s3) (s3 _ _ kvd) ndl nv aa
   . have hodd:i % 2=1:=by
       have:=of_decide_eq_false c1
       have h2:¬ (i:Int) % 2=0:=fun z=>this (show V.int ((i:Int) % 2)=V.int 0 by rw[z])
       omega
     obtain⟨dl,nn,rfl,ndl,nv,kdl⟩:=hdl hodd
     exact tail dl nn G eG kvd ndl nv kdl
 rintro σ G ⟨F0,z8,z9,z10,rfl,eG,kvd,_⟩
 refine hA9 _ _ ?_
 clear hA9
 rw[show CV 6=xs.length by rw[hx6];rfl,BD] at kvd
 generalize hzs:(xs.filter fun y=>decide (y∈S))=zs at kvd
 have zm:∀y,y∈zs↔y∈xs/\y∈S:=fun y=>by rw[<- hzs,CK];exact⟨fun h=>⟨h.1,of_decide_eq_true h.2⟩,fun h=>⟨h.1,decide_eq_true h.2⟩⟩
 have zn:zs.Nodup:=by rw[<- hzs];exact hxn.sublist List.filter_sublist
 have zl:zs.length<=6:=by rw[<- hzs,<- hx6];exact Bx _ _
 have hAx:AllD xs ds:=zo hL (hg.ok (B 5)) fun _ _ _ _ h=>h
 have e6:Same H6 G:=e6G.trans eG
 have l6:((xs.map V.str).length:Int)=6:=by rw[Ac,hx6];rfl
 clear knl sv kv hzs
 refine ak (a:=tAsg _ _) fun A10 hA10 _ _=>?_
 refine⟨(show 1<=sizeLine by decide),fun q0 hq0=>?_⟩
 have s1:=ad hq0 (.tup [V.int 0])
 have k1:(upd G q0 (.tup [V.int 0])) q0=some (.tup [V.int 0]):=aa
 dsimp only[ba]
 generalize upd G q0 (.tup [V.int 0])=Ga at s1 k1 |-
 refine hA10 [some (.ref a),some (.ref nl),some (.int pk),some (.ref pa),some (.ref bd2),some (.ref so),z6,some (.ref vd),z8,z9,z10,some (.ref q0),none,none,none,none] _ ?_
 clear hA10
 refine ak (a:=tIfS _ _ _) fun A11 hA11 _ _=>?_
 have next:∀(Gb:Hp) (pt:Addr) (pp:Pre) (k:Nat) (es:List Deed),Same G Gb->SqT K Gb pt ((flat pp++[(k:Int)]).map V.int)->subL ds pp=some es->k<=es.length->A11.nx [some (.ref a),some (.ref nl),some (.int pk),some (.ref pa),some (.ref bd2),some (.ref so),z6,some (.ref vd),z8,z9,z10,some (.ref pt),none,none,none,none] Gb:=fun Gb pt pp k es eb hpt hes hk=>by
   refine hA11 _ _ ?_
   clear hA11
   refine ak (a:=tAsg _ _) fun A12 hA12 _ _=>?_
   obtain⟨vn,hvn,hvm⟩:=lg (xs:=xs.map V.str) (m:=6) (i:=pk / 6) l6 (by decide)
   obtain⟨nm,hnm,rfl⟩:=AF.mp hvm
   refine⟨_,rfl,_,rfl,_,_,rfl,rfl,(show CDiv _ 6 from⟨by decide,by decide⟩),_,_,rfl,rfl,(show (0:Int)<6 by decide),nl,_,_,_,rfl,rfl,SqL.of (eb _ _ (e6 _ _ knl6)),hvn,?_⟩
   dsimp only[ba]
   refine hA12 [some (.ref a),some (.ref nl),some (.int pk),some (.ref pa),some (.ref bd2),some (.ref so),some (.str nm),some (.ref vd),z8,z9,z10,some (.ref pt),none,none,none,none] _ ?_
   clear hA12
   refine ak (a:=tAsg _ _) fun A13 hA13 _ _=>?_
   refine⟨_,rfl,_,rfl,(show 0<=sizeLine by decide),fun f1 hf1=>⟨(show 0<=sizeLine by decide),fun p1 hp1=>⟨(show 2<=sizeLine by decide),fun t1 ht1=>⟨(show 0<=sizeLine by decide),fun f2 hf2=>⟨(show 0<=sizeLine by decide),fun p2 hp2=>⟨(show 2<=sizeLine by decide),fun t2 ht2=>⟨_,rfl,(show 6<=sizeLine by decide),fun t ht=>⟨(show 1<=sizeLine by decide),fun l hl=>?_⟩⟩⟩⟩⟩⟩⟩⟩
   have s1:=ad hf1 (.lst [])
   have k1:(upd Gb f1 (.lst [])) f1=some (.lst []):=aa
   generalize upd Gb f1 (.lst [])=G1 at s1 k1 hp1 ht1 hf2 hp2 ht2 ht hl |-
   have s2:=ad hp1 (.lst [])
   have k2:(upd G1 p1 (.lst [])) p1=some (.lst []):=aa
   generalize upd G1 p1 (.lst [])=G2 at s2 k2 ht1 hf2 hp2 ht2 ht hl |-
   have s3:=ad ht1 (.tup [.ref f1,.ref p1])
   have k3:(upd G2 t1 (.tup [.ref f1,.ref p1])) t1=some (.tup [.ref f1,.ref p1]):=aa
   generalize upd G2 t1 (.tup [.ref f1,.ref p1])=G3 at s3 k3 hf2 hp2 ht2 ht hl |-
   have s4:=ad hf2 (.lst [])
   have k4:(upd G3 f2 (.lst [])) f2=some (.lst []):=aa
   generalize upd G3 f2 (.lst [])=G4 at s4 k4 hp2 ht2 ht hl |-
   have s5:=ad hp2 (.lst [])
   have k5:(upd G4 p2 (.lst [])) p2=some (.lst []):=aa
   generalize upd G4 p2 (.lst [])=G5 at s5 k5 ht2 ht hl |-
   have s6:=ad ht2 (.tup [.ref f2,.ref p2])
   have k6:(upd G5 t2 (.tup [.ref f2,.ref p2])) t2=some (.tup [.ref f2,.ref p2]):=aa
   generalize upd G5 t2 (.tup [.ref f2,.ref p2])=G6 at s6 k6 ht hl |-
   have s7:=ad ht (.tup [.str nm,.ref pa,.str "",.ref t1,.ref t2,.ref bd2])
   have k7:(upd G6 t (.tup [.str nm,.ref pa,.str "",.ref t1,.ref t2,.ref bd2])) t=some (.tup [.str nm,.ref pa,.str "",.ref t1,.ref t2,.ref bd2]):=aa
   generalize upd G6 t (.tup [.str nm,.ref pa,.str "",.ref t1,.ref t2,.ref bd2])=G7 at s7 k7 hl |-
   have s8:=ad hl (.lst [.ref t])
   have k8:(upd G7 l (.lst [.ref t])) l=some (.lst ([t].map V.ref)):=aa
   dsimp only[ba]
   generalize upd G7 l (.lst [.ref t])=G8 at s8 k8 |-
   have t78:=s7.trans s8
   have t68:=s6.trans t78
   have t58:=s5.trans t68
   have t48:=s4.trans t58
   have t38:=s3.trans t48
   have t28:=s2.trans t38
   have b8:=s1.trans t28
   have e68:=(e6.trans eb).trans b8
   have prx:PrcAt K G8 (B 5) t (prcL nm (xs.take np) ds):=⟨pa,t1,t2,f1,p1,f2,p2,bd2,s8 _ _ k7,e68 _ _ kpa6,t48 _ _ k3,t78 _ _ k6,⟨[],t28 _ _ k1,.nil⟩,⟨[],t38 _ _ k2,.nil⟩,⟨[],t58 _ _ k4,.nil⟩,⟨[],t68 _ _ k5,.nil⟩,hL.same e68,ng (hxs _ hnm),i7 ("" : Str) (by simp),fun y hy=>ng (hxs _ (BS hy)),⟨fun _ h=>(by cases h),fun _ h=>(by cases h)⟩,⟨fun _ h=>(by cases h),fun _ h=>(by cases h)⟩,⟨AG _,AG _⟩,⟨AG _,AG _⟩⟩
   refine hA13 [some (.ref a),some (.ref nl),some (.int pk),some (.ref pa),some (.ref bd2),some (.ref so),some (.str nm),some (.ref vd),z8,z9,z10,some (.ref pt),some (.ref l),none,none,none] _ ?_
   clear hA13 s1 s2 s3 s4 s5 s6 s7 k1 k2 k3 k4 k5 k6 t78 t68 t58 t48 t38 t28 hf1 hp1 ht1 hf2 hp2 ht2 ht hl
   have kvd8:=b8 _ _ (eb _ _ kvd)
   have hpt8:=b8.seqT hpt
   have hS8:=e68.seq hS6
   have hL8:=hL.same e68
   clear b8 s8
   refine ak (a:=tAsg _ _) fun A14 hA14 _ _=>?_
   refine⟨_,rfl,_,rfl,_,rfl,_,rfl,vd,_,rfl,kvd8,fun va hva=>?_⟩
   have s9:=ad hva (.dK (vK zs F0))
   have k9:(upd G8 va (.dK (vK zs F0))) va=some (.dK (vK zs F0)):=aa
   generalize upd G8 va (.dK (vK zs F0))=G9 at s9 k9 |-
   intro ha hha
   have s10:=ad hha (.dK [])
   have k10:(upd G9 ha (.dK [])) ha=some (.dK []):=aa
   dsimp only
   generalize upd G9 ha (.dK [])=G10 at s10 k10 |-
   have e810:=s9.trans s10
   intro m dm hmn hdmn hne
   have s11:Same G10 (upd (upd G10 dm (.own m)) m (.ins CM dm [])):=fun b o z=>by rw[ah (ao z hmn),ah (ao z hdmn)];exact z
   obtain⟨_,_,_,_,_,hpp5⟩:=fg hL8 hes
   rw[Do] at hpp5
   refine .mk G10 m dm l pt va ha nm [t] [prcL nm (xs.take np) ds] 0 (prcL nm (xs.take np) ds) xs (vK zs F0) [] [] pp k (dueR ds pp.reverse k) rfl s11 hmn aa (e810 _ _ k8) (.cons (prx.same e810) .nil) (Bb.mpr ⟨by simp,DS⟩) (by show 1<=10;decide) rfl rfl (a94 hx6 hxs (fun y hy=>BS hy) (by rw[AS];omega) hg) (e810.seqT hpt8) (fun G' bd h=>by obtain⟨e,st,_⟩:=j7 h hes hk;exact⟨e,st⟩) (by omega) (s10 _ _ k9) k10 rfl fun G11 pd fl p dxp q1 nd' cd pr bd prs fsm fs' ys g H20 MN=>⟨rfl,?_⟩
   refine hA14 [some (.ref a),some (.ref nl),some (.int pk),some (.ref pa),some (.ref bd2),some (.ref so),some (.str nm),some (.ref vd),z8,z9,z10,some (.ref pt),some (.ref l),some (.ref m),none,none] _ ?_
   clear hA14
   have kvdG:G11 vd=some (.dK (vK zs F0)):=MN.g1 _ _ (e810 _ _ kvd8)
   have kvd20:=MN.gH _ _ kvdG
   have nvd:nd'≠vd:=fun z=>by have y:=MN.n3;rw[z,kvdG] at y;cases y
   have hX:∀b o,H20 b=some o->b≠p->b≠nd'->b≠vd->(rm (fun b=>b=p\/b=nd'\/b=vd) H20) b=some o:=fun b o h n1 n2 n3=>by
     rw[cb (X:=fun b=>b=p\/b=nd'\/b=vd) (fun z=>by
       rcases z with z|z|z
       . exact n1 z
       . exact n2 z
       . exact n3 z)]
     exact h
   have xn:∀{b:Addr},(b=p\/b=nd'\/b=vd)->(rm (fun b=>b=p\/b=nd'\/b=vd) H20) b=none:=fun {b} h=>by unfold rm;rw[if_pos h]
   have sX:Same (rm (fun b=>b=p\/b=nd'\/b=vd) H20) H20:=ej
   generalize rm (fun b=>b=p\/b=nd'\/b=vd) H20=X at hX xn sX
   have keepG:∀b o,G11 b=some o->(∀C d f,o≠.ins C d f)->(∀kvs,o≠.dK kvs)->X b=some o:=fun b o h _ i2=>hX b o (MN.gH _ _ h) (ao h MN.n2) (ao h MN.n3) (fun z=>by rw[z,kvdG] at h;exact i2 _ (Av h).symm)
   have keepH:∀b o,H20 b=some o->(∀C d f,o≠.ins C d f)->(∀kvs,o≠.dK kvs)->X b=some o:=fun b o h i1 i2=>hX b o h (fun z=>by rw[z,MN.hp] at h;exact i1 _ _ _ (Av h).symm) (fun z=>by rw[z,MN.hnd] at h;exact i2 _ (Av h).symm) (fun z=>by rw[z,kvd20] at h;exact i2 _ (Av h).symm)
   have LX:ListX K X (B 5) bd ds:=ListX.keep keepG MN.body
   have LX2:ListX K X (B 5) bd2 ds:=ListX.keep keepG (hL8.same (e810.trans MN.g1))
   have ym:∀y,y∈ys↔bx y=true/\(y∈xs.take np\/y = "" \/ y∈(allL (B 5) ds).flatMap wrd):=fun y=>(MN.zm y).trans (and_congr HJ allW_prc)
   have hyz:∀y,y∈ys↔y∈zs:=fun y=>by
     rw[ym,zm,F2.mem,As]
     constructor
     . rintro⟨hi,hy⟩
       rcases hy with z|z|z
       . exact⟨BS z,.inl z⟩
       . rw[z,no_nil.2] at hi;cases hi
       . refine⟨?_,.inr z⟩
         obtain⟨d,hd,h⟩:=Bh.mp z
         rcases As.mp (a2v (hg.ok _ d hd) h) with q|q
         . exact q
         . rw[Au.mp q,no_nil.1] at hi;cases hi
     . rintro⟨hx,hy⟩
       exact⟨hxs _ hx,hy.imp id .inr⟩
   have hA:AllD ys ds:=zo LX (hg.ok (B 5)) fun d hd y hy hx=>(ym y).mpr ⟨hxs _ hx,.inr (.inr (Bh.mpr ⟨d,hd,hy⟩))⟩
   have hA2:AllD zs ds:=fun p es i d h1 h2=>(hA p es i d h1 h2).mono fun y hy=>(hyz y).mp hy
   have hnd0:=MN.hnd
   rw[za fun z hz=>(hyz z).mp hz] at hnd0
   have yl:ys.length<=6:=Ax (Bf MN.zn fun y hy=>(hyz y).mp hy) zl
   have nz:¬ ("nil" : Str)∈zs:=fun z=>by have:=hxs _ ((zm _).mp z).1;rw[no_nil.1] at this;cases this
   have bc:Bc K X bd bd2 nd' vd ys zs ds:=⟨LX,LX2,hA,hA2,xn (.inr (.inr rfl)),nvd,by omega,nz⟩
   obtain⟨e0,st0,hdl0⟩:=j7 LX hes hk
   obtain⟨e02,st2,_⟩:=j7 LX2 hes hk
   have hat0:=ww LX st0
   generalize dueR ds pp.reverse k=due at st0 hdl0 st2 hat0 MN
   have xm:X m=some (.ins CM dm fsm):=hX _ _ MN.hm MN.mp (fun z=>by have y:=MN.hm;rw[z,MN.hnd] at y;cases y) (fun z=>by have y:=MN.hm;rw[z,kvd20] at y;cases y)
   have xcd:X cd=some (.dK []):=hX _ _ MN.hcd (fun z=>by have y:=MN.hcd;rw[z,MN.hp] at y;cases y) (AO MN.nc) (fun z=>by have y:=MN.n4;rw[z,kvdG] at y;cases y)
   obtain⟨v0,v1,v2,v3,v4,hprG⟩:=MN.hbd
   have hprX:=keepG _ _ hprG (fun _ _ _ z=>by cases z) (fun _ z=>by cases z)
   obtain⟨ptM,tM1,tM2,fM1,pM1,fM2,pM2,bdM,pxM⟩:=Paired.at2 MN.hps MN.hpr (show ([prcL nm (xs.take np) ds]:List Prc)[0]? = some (prcL nm (xs.take np) ds) from rfl)
   have hnmX:X pr=some (.tup (.str nm::[.ref ptM,.str "",.ref tM1,.ref tM2,.ref bdM])):=keepG _ _ pxM.tup (fun _ _ _ z=>by cases z) (fun _ z=>by cases z)
   have M0:M1 K CM CF X H20 m dm pd fl cd p pr nd' bd fsm g ys F0 due.1 due.2 0:=⟨sX,xn (.inl rfl),xn (.inr (.inl rfl)),xm,MN.mf,keepH _ _ MN.hfl (fun _ _ _ z=>by cases z) (fun _ z=>by cases z),xcd,⟨v0,v1,v2,v3,v4,hprX⟩,⟨dxp,fs',q1,MN.hp,MN.ff,MN.lf,MN.hq1⟩,hnd0,by omega,by omega⟩
   obtain⟨l2,ts2,g1,g2,g3,g4⟩:=fg LX2 hes
   have okn:(PyData.str nm).canLay0=true:=ng (hxs _ hnm)
   have mme:=MN.mf.meth
   have zn':=MN.zn
   have hS20:=(e810.trans (MN.g1.trans MN.gH)).seq hS8
   have hpt20:=(e810.trans (MN.g1.trans MN.gH)).seqT hpt8
   refine ak (a:=tAsg _ _) fun A15 hA15 _ _=>?_
   refine⟨_,rfl,_,rfl,.mk bd2 pt l2 pp k rfl hpt20 (g1.same sX) (by omega) fun cl c r H21 T1 ec=>?_⟩
   dsimp only[ba]
   refine hA15 [some (.ref a),some (.ref nl),some (.int pk),some (.ref pa),some (.ref bd2),some (.ref so),some (.str nm),some (.ref vd),z8,z9,z10,some (.ref pt),some (.ref l),some (.ref m),some (.ref cl),none] _ ?_
   clear hA15
   have e21:=T1.sX
   have T2:=T1.keep sX keepH
   refine ak (a:=j4 _) fun A16 hA16 _ _=>?_
   obtain⟨ec1,ec2⟩:=HZ ec
   refine⟨_,rfl,.mk X bd2 cl c r due e02 rfl T2 (by rw[ec1,ec2];exact st2) fun H22 c' r' T3 ec' kt _=>?_⟩
   refine hA16 [some (.ref a),some (.ref nl),some (.int pk),some (.ref pa),some (.ref bd2),some (.ref so),some (.str nm),some (.ref vd),z8,z9,z10,some (.ref pt),some (.ref l),some (.ref m),some (.ref cl),none] _ ?_
   clear hA16
   have kvd21:=e21 _ _ kvd20
   have nvc:vd≠cl/\vd∉(c::r).map (·.ce):=⟨fun z=>(by rw[z,T2.hcl] at kvd21;cases kvd21),fun z=>by
     obtain⟨d,hd,e⟩:=AF.mp z
     have y:=(T2.at_ d hd).hc
     rw[show d.ce=vd from e,kvd21] at y;cases y⟩
   have B0:Bo K CM CF X H22 m dm pd fl cd p pr nd' bd bd2 cl vd fsm g ys zs ds 0 F0 due.1 due.2 c' r':=⟨(M0.same e21).kpV T2 kvd21 nvd T3.sX (fun b o h n1 n2 _=>kt b o h n1 n2),T3,ec',kt _ _ kvd21 nvc.1 nvc.2,hat0⟩
   have hS22:SqL K H22 a (ns.map V.int):=T3.sX.seq (by
     rcases hS20 with (h|⟨o,h⟩)|h
     . exact .inl (.inl (keepH _ _ h (fun _ _ _ z=>by cases z) (fun _ z=>by cases z)))
     . exact .inl (.inr ⟨o,keepH _ _ h (fun _ _ _ z=>by cases z) (fun _ z=>by cases z)⟩)
     . exact .inr h)
   clear MN hX keepG keepH hprG M0 T1 T2 T3 kt kvd21 nvc hpt20 hS20 hat0 st0 st2 hA hA2 LX LX2
   have std:∀{H':Hp} {j:Nat} {F:Str->Int} {pp:Pre} {k:Nat} {c:Tr} {r:List Tr} {Q':VK},Bo K CM CF X H' m dm pd fl cd p pr nd' bd bd2 cl vd fsm g ys zs ds j F pp k c r->j<=40->(∀H'',Same H' H''->Q' (.bl true) H'')->spStands K CM CF [.ref m,.str nm,.ref cl,.ref vd] H' Q' E0:=fun {H' j F pp k c r Q'} b hj q'=>by
     obtain⟨M,T,ec,hv,es,hes,hk,hend⟩:=b
     obtain⟨ec1,ec2⟩:=HZ ec
     obtain⟨l,ts,f1,f2,f3,f4⟩:=fg bc.L hes
     have g1:=T.td.from c r rfl
     rw[ec1] at g1
     obtain⟨l2,ts2,g0,g2,g3,_⟩:=fg bc.L2 hes
     have e2:=g0.uniq g1
     subst e2
     exact .mk X X m dm pd fl cd p pr nd' bd l bd2 cl vd fsm g ys zs F pp k j ts ts2 nm _ c r rfl M hj f1 f2 hnmX T ec g2 (by omega) (by omega) (fun z=>by rw[f3];exact hend z) hv hyz zn' zn okn q'
   refine ak (a:=tFor _ _ _) fun A17 hA17 _ _=>?_
   refine⟨_,rfl,a,ns,7,rfl,hS22,_,_,rfl,rfl,(show (0:Int)<50 by decide),?_⟩
   obtain⟨N,hN,hN40⟩:∃N:Nat,(if fb ns 7 % 50<40 then fb ns 7 % 50 else 40)=(N:Int)/\N<=40:=by
     obtain⟨jn,hj,_⟩:=modN (fb ns 7) 50 (by decide)
     rw[hj]
     by_cases z:(jn:Int)<40
     . rw[if_pos z];exact⟨jn,rfl,by omega⟩
     . rw[if_neg z];exact⟨40,rfl,Ah _⟩
   refine⟨_,_,rfl,(N:Int),(by rw[<- hN]),(by omega),(by omega),?_⟩
   rw[By]
   refine ib (fun i σ H'=>∃(j:Nat) (F:Str->Int) (pp:Pre) (k:Nat) (c:Tr) (r:List Tr) (z15:Option V),σ=[some (.ref a),some (.ref nl),some (.int pk),some (.ref pa),some (.ref bd2),some (.ref so),some (.str nm),some (.ref vd),z8,z9,z10,some (.ref pt),some (.ref l),some (.ref m),some (.ref cl),z15]/\Bo K CM CF X H' m dm pd fl cd p pr nd' bd bd2 cl vd fsm g ys zs ds j F pp k c r/\j<=i) ⟨0,F0,_,_,c',r',none,rfl,B0,Ah _⟩ ?_ ?_
   . rintro i σ H' hi ⟨j,F1,pp1,k1,c1,r1,z15,rfl,b,hj⟩
     dsimp only[ba]
     refine ak (a:=tIfS _ _ _) fun C1 hC1 _ _=>?_
     refine⟨_,rfl,_,rfl,_,rfl,_,rfl,std b (by omega) fun H'' e=>⟨_,rfl,iteB (fun c=>absurd c (by simp)) (fun _=>?_)⟩⟩
     refine hC1 [some (.ref a),some (.ref nl),some (.int pk),some (.ref pa),some (.ref bd2),some (.ref so),some (.str nm),some (.ref vd),z8,z9,z10,some (.ref pt),some (.ref l),some (.ref m),some (.ref cl),some (.int (0+(i:Int)))] _ ?_
     clear hC1
     have b':=b.same e
     refine ak (a:=j4 _) fun C2 hC2 _ _=>?_
     refine⟨_,rfl,m,dm,fsm,rfl,b'.M.sX _ _ xm,mme _ (by decide +kernel),b'.both bc (by omega) fun H1 stp=>?_⟩
     refine hC2 [some (.ref a),some (.ref nl),some (.int pk),some (.ref pa),some (.ref bd2),some (.ref so),some (.str nm),some (.ref vd),z8,z9,z10,some (.ref pt),some (.ref l),some (.ref m),some (.ref cl),some (.int (0+(i:Int)))] _ ?_
     exact⟨_,rfl,_,rfl,stp _ _ fun H2 j' F' pp' k' c' r' hj' B'=>⟨j',F',pp',k',c',r',_,rfl,B',by omega⟩⟩
   . rintro σ H' ⟨j,F1,pp1,k1,c1,r1,z15,rfl,b,hj⟩
     refine hA17 _ _ ?_
     exact⟨_,rfl,_,rfl,_,rfl,_,rfl,std b (by omega) fun H3 _=>q _⟩
 have nx0:=next Ga q0 [] 0 ds s1 (SqT.of k1) rfl (AG _)
 refine⟨_,rfl,_,_,rfl,rfl,(show CDiv _ 3 from⟨by decide,by decide⟩),_,_,rfl,rfl,(show (0:Int)<2 by decide),rfl,_,rfl,iteB (fun _=>?_) (fun _=>nx0)⟩
 refine⟨_,rfl,_,rfl,a,ns,6,rfl,(e6.trans s1).seq hS6,.mk bd2 (fb ns 6) (B 5) ds xs rfl (hL.same (e6.trans s1)) (by decide) (fun b hb=>by rw[List.eq_of_mem_replicate hb];decide) hAx fun pt pp k l ts Gb e h1 h2 h3 h4 _=>?_⟩
 obtain⟨es,he1,he2,_⟩:=il (hL.same (e6.trans s1)) h2 h3
 exact next Gb pt pp k es (s1.trans e) h1 he1 (by omega)
noncomputable abbrev a83:Stmt:=dh (top 30) 8
theorem kn {K:Ab}{h:Heap}{mg:Str->Option Value}{x:Str}{a:Addr}(X:K.In h) (G:h.Ns mainGlobals mg) (e:Am K mainGlobals x=some (some (.ref a))):Glob mg x (.ref a):=⟨_,Aw X G e,rfl⟩
theorem x9 {K:Ab}{h:Heap}{mg:Str->Option Value}{x y z:Str}{t:Tok}(X:K.In h) (G:h.Ns mainGlobals mg) (e:Am K mainGlobals x=some (some (.str y t))) (hy:y=z):Glob mg x (.str z):=⟨_,Aw X G e,t,by rw[hy]⟩
theorem a6b {K:Ab}{h:Heap}{mg:Str->Option Value}{x:Str}{i j:Int}{t:Tok}(X:K.In h) (G:h.Ns mainGlobals mg) (e:Am K mainGlobals x=some (some (.int i t))) (hj:i=j):Glob mg x (.int j):=⟨_,Aw X G e,t,by rw[hj]⟩
theorem rel_find {es:Array DictEntry}{kvs:List (Str×V)}(h:Paired (fun (kv:Str×V) (e:DictEntry)=>∃hh t u,e=⟨hh,.str kv.1 t,u⟩/\RelV kv.2 u) kvs es.toList) (x:Str):RelO (kvs.lookup x) (findBy BU es x):=by
 unfold findBy
 rw[<- Hw]
 generalize es.toList=l at h
 have b:∀y t,BU x (.str y t)=(x == y):=fun y t=>by
   show (y == x)=(x == y)
   exact Bool.eq_iff_iff.mpr ⟨fun z=>beq_iff_eq.mpr (beq_iff_eq.mp z).symm,fun z=>beq_iff_eq.mpr (beq_iff_eq.mp z).symm⟩
 induction h with
 | nil=>exact trivial
 | cons h1 _ ih =>
   rename_i kv e _ _ _
   obtain⟨k,v⟩:=kv
   obtain⟨hh,t,u,rfl,r⟩:=h1
   simp only[BC,b,Ej]
   dsimp only at r ih |-
   cases x == k with
   | true=>exact r
   | false=>exact ih
theorem all_mk {l:FT}{w:World}{K:Ab}{h:Heap}{mg:Str->Option Value}{fa CF CM f1 f2 f3 f4 f5 f6 f7 f8 f9 f10 f11 f12 f13 f14 f15 f16 f17 f18 f19 f20 f21 f22 f23 f24 f25 f26 f27 f28 f29 f30 f31 f32 f33 f34 f35 f36 f37 f38 f39 f40 f41 f42 f43 f44 f45 f46 f47:Addr}(X:K.In h) (G:h.Ns mainGlobals mg) (hfa:mg "law" = some (.ref fa))
   {d1 d2 d3 d4 d5 d6 d7 d8 d9 d10 d11 d12 d13 d14 d15 d16 d17 d18 d19 d20 d21 d22 d23 d24 d25 d26 d27 d28 d29 d30 d31 d32 d33 d34 d35 d36 d37 d38 d39 d40 d41 d42 d43 d44 d45 d46 d47:FuncData}
   (aCFrame:Am K mainGlobals "Frame" = some (some (.ref CF)))
   (aCMachine:Am K mainGlobals "Machine" = some (some (.ref CM)))
   (a1:Am K mainGlobals "is_name" = some (some (.ref f1)))
   (F1:Fun K "is_name" "is_name" tz f1 d1)
   (a2:Am K mainGlobals "names_of" = some (some (.ref f2)))
   (F2:Fun K "names_of" "names_of" pw f2 d2)
   (a3:Am K mainGlobals "number_of" = some (some (.ref f3)))
   (F3:Fun K "number_of" "number_of" wp f3 d3)
   (a4:Am K mainGlobals "holds" = some (some (.ref f4)))
   (F4:Fun K "holds" "holds" vp f4 d4)
   (a5:Am K mainGlobals "lists_in" = some (some (.ref f5)))
   (F5:Fun K "lists_in" "lists_in" pq f5 d5)
   (a6:Am K mainGlobals "own_deed" = some (some (.ref f6)))
   (F6:Fun K "own_deed" "own_deed" qm f6 d6)
   (a7:Am K mainGlobals "own_deeds" = some (some (.ref f7)))
   (F7:Fun K "own_deeds" "own_deeds" le f7 d7)
   (a8:Am K mainGlobals "cell_name" = some (some (.ref f8)))
   (F8:Fun K "cell_name" "cell_name" ky f8 d8)
   (a9:Am K mainGlobals "all_deeds" = some (some (.ref f9)))
   (F9:Fun K "all_deeds" "all_deeds" sAll f9 d9)
   (a10:Am K mainGlobals "words_of" = some (some (.ref f10)))
   (F10:Fun K "words_of" "words_of" wf f10 d10)
   (a11:Am K mainGlobals "names_in" = some (some (.ref f11)))
   (F11:Fun K "names_in" "names_in" ql f11 d11)
   (a12:Am K mainGlobals "by_names" = some (some (.ref f12)))
   (F12:Fun K "by_names" "by_names" qk f12 d12)
   (a13:Am K mainGlobals "list_of" = some (some (.ref f13)))
   (F13:Fun K "list_of" "list_of" sd f13 d13)
   (a14:Am K mainGlobals "found_at" = some (some (.ref f14)))
   (F14:Fun K "found_at" "found_at" yc f14 d14)
   (a15:Am K mainGlobals "behind_deed" = some (some (.ref f15)))
   (F15:Fun K "behind_deed" "behind_deed" tm f15 d15)
   (a16:Am K mainGlobals "settled" = some (some (.ref f16)))
   (F16:Fun K "settled" "settled" qa f16 d16)
   (a17:Am K mainGlobals "_law_cell_at" = some (some (.ref f17)))
   (F17:Fun K "_law_cell_at" "_law_cell_at" a1k f17 d17)
   (a18:Am K mainGlobals "_law_rich" = some (some (.ref f18)))
   (F18:Fun K "_law_rich" "_law_rich" a0g f18 d18)
   (a19:Am K mainGlobals "_law_fed" = some (some (.ref f19)))
   (F19:Fun K "_law_fed" "_law_fed" sFed f19 d19)
   (a20:Am K mainGlobals "_law_digit" = some (some (.ref f20)))
   (F20:Fun K "_law_digit" "_law_digit" wg f20 d20)
   (a21:Am K mainGlobals "_law_unlike" = some (some (.ref f21)))
   (F21:Fun K "_law_unlike" "_law_unlike" sj f21 d21)
   (a22:Am K mainGlobals "_law_names" = some (some (.ref f22)))
   (F22:Fun K "_law_names" "_law_names" vw f22 d22)
   (a23:Am K mainGlobals "_law_closed" = some (some (.ref f23)))
   (F23:Fun K "_law_closed" "_law_closed" sw f23 d23)
   (a24:Am K mainGlobals "_law_body" = some (some (.ref f24)))
   (F24:Fun K "_law_body" "_law_body" a0i f24 d24)
   (a25:Am K mainGlobals "_law_opened" = some (some (.ref f25)))
   (F25:Fun K "_law_opened" "_law_opened" tw f25 d25)
   (a26:Am K mainGlobals "_law_settle" = some (some (.ref f26)))
   (F26:Fun K "_law_settle" "_law_settle" u4 f26 d26)
   (a27:Am K mainGlobals "_law_place" = some (some (.ref f27)))
   (F27:Fun K "_law_place" "_law_place" wc f27 d27)
   (a28:Am K mainGlobals "_law_path" = some (some (.ref f28)))
   (F28:Fun K "_law_path" "_law_path" a1i f28 d28)
   (a29:Am K mainGlobals "_law_chosen" = some (some (.ref f29)))
   (F29:Fun K "_law_chosen" "_law_chosen" tu f29 d29)
   (a30:Am K mainGlobals "_law_said" = some (some (.ref f30)))
   (F30:Fun K "_law_said" "_law_said" a1f f30 d30)
   (a31:Am K mainGlobals "_law_stands" = some (some (.ref f31)))
   (F31:Fun K "_law_stands" "_law_stands" nr f31 d31)
   (a32:Am K mainGlobals "_law_step" = some (some (.ref f32)))
   (F32:Fun K "_law_step" "_law_step" xk f32 d32)
   (a33:Am K mainGlobals "law" = some (some (.ref f33)))
   (F33:Fun K "law" "law" sLaw f33 d33)
   (a34:Ay K (.ref CF) "__init__" = some (some (.ref f34))) (i34:Bp K (.ref f34)=true)
   (F34:Fun K "__init__" "Frame.__init__" y6 f34 d34)
   (a35:Ay K (.ref CF) "deed" = some (some (.ref f35))) (i35:Bp K (.ref f35)=true)
   (F35:Fun K "deed" "Frame.deed" y9 f35 d35)
   (a36:Ay K (.ref CF) "move" = some (some (.ref f36))) (i36:Bp K (.ref f36)=true)
   (F36:Fun K "move" "Frame.move" vj f36 d36)
   (a37:Ay K (.ref CF) "number" = some (some (.ref f37))) (i37:Bp K (.ref f37)=true)
   (F37:Fun K "number" "Frame.number" a0h f37 d37)
   (a38:Ay K (.ref CM) "__init__" = some (some (.ref f38))) (i38:Bp K (.ref f38)=true)
   (F38:Fun K "__init__" "Machine.__init__" w8 f38 d38)
   (a39:Ay K (.ref CM) "word" = some (some (.ref f39))) (i39:Bp K (.ref f39)=true)
   (F39:Fun K "word" "Machine.word" vk f39 d39)
   (a40:Ay K (.ref CM) "where" = some (some (.ref f40))) (i40:Bp K (.ref f40)=true)
   (F40:Fun K "where" "Machine.where" u6 f40 d40)
   (a41:Ay K (.ref CM) "held" = some (some (.ref f41))) (i41:Bp K (.ref f41)=true)
   (F41:Fun K "held" "Machine.held" wo f41 d41)
   (a42:Ay K (.ref CM) "heap" = some (some (.ref f42))) (i42:Bp K (.ref f42)=true)
   (F42:Fun K "heap" "Machine.heap" xt f42 d42)
   (a43:Ay K (.ref CM) "step" = some (some (.ref f43))) (i43:Bp K (.ref f43)=true)
   (F43:Fun K "step" "Machine.step" wu f43 d43)
   (a44:Ay K (.ref CM) "branch" = some (some (.ref f44))) (i44:Bp K (.ref f44)=true)
   (F44:Fun K "branch" "Machine.branch" qi f44 d44)
   (a45:Ay K (.ref CM) "enter" = some (some (.ref f45))) (i45:Bp K (.ref f45)=true)
   (F45:Fun K "enter" "Machine.enter" a83 f45 d45)
   (a46:Ay K (.ref CM) "leave_ended" = some (some (.ref f46))) (i46:Bp K (.ref f46)=true)
   (F46:Fun K "leave_ended" "Machine.leave_ended" u0 f46 d46)
   (a47:Ay K (.ref CM) "change" = some (some (.ref f47))) (i47:Bp K (.ref f47)=true)
   (F47:Fun K "change" "Machine.change" qh f47 d47)
   (pgFrame:CY K CF IF=true) (hdFrame:Dl K CF=true) (poFrame:DX K CF=true) (saFrame:Ay K (.ref CF) "__setattr__" = some (some (.builtin "object.__setattr__"))) (mkFrame:Es K CF=true) (kcFrame:Cq K (.ref CF)=true)
   (nFrame0:Ay K (.ref CF) "procedure" = some none)
   (nFrame1:Ay K (.ref CF) "path" = some none)
   (nFrame2:Ay K (.ref CF) "numbers" = some none)
   (nFrame3:Ay K (.ref CF) "receiver" = some none)
   (pgMachine:CY K CM IF=true) (hdMachine:Dl K CM=true) (poMachine:DX K CM=true) (saMachine:Ay K (.ref CM) "__setattr__" = some (some (.builtin "object.__setattr__"))) (mkMachine:Es K CM=true) (kcMachine:Cq K (.ref CM)=true)
   (nMachine0:Ay K (.ref CM) "procedures" = some none)
   (nMachine1:Ay K (.ref CM) "frames" = some none)
   (nMachine2:Ay K (.ref CM) "cells" = some none)
   (nMachine3:Ay K (.ref CM) "greatest" = some none)
   (nMachine4:Ay K (.ref CM) "fallen" = some none)
   (z1:Am K mainGlobals "len" = some none)
   (z2:Am K mainGlobals "all" = some none)
   (z3:Am K mainGlobals "any" = some none)
   (z4:Am K mainGlobals "isinstance" = some none)
   (z5:Am K mainGlobals "list" = some none)
   (z6:Am K mainGlobals "int" = some none)
   (z7:Am K mainGlobals "bool" = some none)
   (z8:Am K mainGlobals "str" = some none)
   (z9:Am K mainGlobals "dict" = some none)
   (z10:Am K mainGlobals "sorted" = some none)
   (z11:Am K mainGlobals "set" = some none)
   (z12:Am K mainGlobals "sum" = some none)
   (z13:Am K mainGlobals "range" = some none)
   (z14:Am K mainGlobals "tuple" = some none)
   (z15:Am K mainGlobals "max" = some none)
   (z16:Am K mainGlobals "zip" = some none)
   (z17:Am K mainGlobals "min" = some none)
   (z18:Am K mainGlobals "enumerate" = some none)
   {yL yF:Str} {tL tF:Tok} (gL:Am K mainGlobals "LETTERS" = some (some (.str yL tL))) (eL:yL=Mir.letters) (gF:Am K mainGlobals "FIGURES" = some (some (.str yF tF))) (eF:yF=Mir.figures)
   {jS:Int} {tS:Tok} (gS:Am K mainGlobals "MOST_SIGNS" = some (some (.int jS tS))) (eS:jS=8)
   {aN aP aE aT t1 t2 t3 t4 t5:Addr} {oN oT o1 o2 o3 o4 o5:Obj} {itN itT it1 it2 it3 it4 it5:Array Value} {nN nT nP nE n1 n2 n3 n4 n5:Nat} {es ec:Array DictEntry}
   (gN:Am K mainGlobals "NO_NAMES" = some (some (.ref aN))) (lN:K.lookup aN=some oN) (cN:oN.cls=.type "tuple") (dN:oN.data=.seq itN nN) (sN:itN.size<=100) (vN:Vals (Mir.noNames.map V.str) itN.toList)
   (gT:Am K mainGlobals "FIELDS" = some (some (.ref aT))) (lT:K.lookup aT=some oT) (cT:oT.cls=.type "tuple") (dT:oT.data=.seq itT nT) (sT:itT.size<=100) (bT:oT.dict=none) (vT:Vals (([("first" : Str),"second"]:List Str).map V.str) itT.toList)
   (gP:Am K mainGlobals "PLAIN_FORMS" = some (some (.ref aP))) (lP:K.lookup aP=some ⟨.type "dict",none,.dict es nP,#[]⟩) (hP:FV w.params es.toList) (mP:(aP == sysModules)=false) (rP:∀x,RelO (([("set",.ref t1),("read",.ref t2),("write",.ref t3),("new",.ref t4),("free",.ref t5)]:List (Str×V)).lookup x) (findBy BU es x))
   (lT1:K.lookup t1=some o1) (cT1:o1.cls=.type "tuple") (dT1:o1.data=.seq it1 n1) (sT1:it1.size<=100) (vT1:Vals ((["name","value"]:List Str).map V.str) it1.toList)
   (lT2:K.lookup t2=some o2) (cT2:o2.cls=.type "tuple") (dT2:o2.data=.seq it2 n2) (sT2:it2.size<=100) (vT2:Vals ((["name","name","field"]:List Str).map V.str) it2.toList)
   (lT3:K.lookup t3=some o3) (cT3:o3.cls=.type "tuple") (dT3:o3.data=.seq it3 n3) (sT3:it3.size<=100) (vT3:Vals ((["name","field","value"]:List Str).map V.str) it3.toList)
   (lT4:K.lookup t4=some o4) (cT4:o4.cls=.type "tuple") (dT4:o4.data=.seq it4 n4) (sT4:it4.size<=100) (vT4:Vals ((["name","value","value"]:List Str).map V.str) it4.toList)
   (lT5:K.lookup t5=some o5) (cT5:o5.cls=.type "tuple") (dT5:o5.data=.seq it5 n5) (sT5:it5.size<=100) (vT5:Vals ((["name"]:List Str).map V.str) it5.toList)
   (gE:Am K mainGlobals "CELL_PLACES" = some (some (.ref aE))) (lE:K.lookup aE=some ⟨.type "dict",none,.dict ec nE,#[]⟩) (hE:FV w.params ec.toList) (mE:(aE == sysModules)=false) (rE:∀x,RelO (([("read",.int 2),("write",.int 1),("free",.int 1)]:List (Str×V)).lookup x) (findBy BU ec x)) :
   ∃fd:FuncData,(∀(s:Shared) (v:Value),BindsTo s fd ⟨[v],[]⟩ [("_law_script",v)])/\∀base:Heap,K.In base->base.Ns mainGlobals mg->FnOk l.prog w K mg base CX0 15 fa fd ["_law_script"] (v7 K):=by
 have e:=hfa.symm.trans (Aw X G a33)
 cases e
 have B1:=F1.binds (ps:=["text"]) fun _ _ _ _ _ _ us hl=>match us,hl with | [_],_=>rfl
 have C1:Cal K mg "is_name" f1 _ ["text"]:=⟨Aw X G a1,F1.kp,B1⟩
 have B2:=F2.binds (ps:=["telling"]) fun _ _ _ _ _ _ us hl=>match us,hl with | [_],_=>rfl
 have C2:Cal K mg "names_of" f2 _ ["telling"]:=⟨Aw X G a2,F2.kp,B2⟩
 have B3:=F3.binds (ps:=["values","word"]) fun _ _ _ _ _ _ us hl=>match us,hl with | [_,_],_=>rfl
 have C3:Cal K mg "number_of" f3 _ ["values","word"]:=⟨Aw X G a3,F3.kp,B3⟩
 have B4:=F4.binds (ps:=["values","fact"]) fun _ _ _ _ _ _ us hl=>match us,hl with | [_,_],_=>rfl
 have C4:Cal K mg "holds" f4 _ ["values","fact"]:=⟨Aw X G a4,F4.kp,B4⟩
 have B5:=F5.binds (ps:=["deed"]) fun _ _ _ _ _ _ us hl=>match us,hl with | [_],_=>rfl
 have C5:Cal K mg "lists_in" f5 _ ["deed"]:=⟨Aw X G a5,F5.kp,B5⟩
 have B6:=F6.binds (ps:=["deed"]) fun _ _ _ _ _ _ us hl=>match us,hl with | [_],_=>rfl
 have C6:Cal K mg "own_deed" f6 _ ["deed"]:=⟨Aw X G a6,F6.kp,B6⟩
 have B7:=F7.binds (ps:=["deeds"]) fun _ _ _ _ _ _ us hl=>match us,hl with | [_],_=>rfl
 have C7:Cal K mg "own_deeds" f7 _ ["deeds"]:=⟨Aw X G a7,F7.kp,B7⟩
 have B8:=F8.binds (ps:=["deed"]) fun _ _ _ _ _ _ us hl=>match us,hl with | [_],_=>rfl
 have C8:Cal K mg "cell_name" f8 _ ["deed"]:=⟨Aw X G a8,F8.kp,B8⟩
 have B9:=F9.binds (ps:=["deeds"]) fun _ _ _ _ _ _ us hl=>match us,hl with | [_],_=>rfl
 have C9:Cal K mg "all_deeds" f9 _ ["deeds"]:=⟨Aw X G a9,F9.kp,B9⟩
 have B10:=F10.binds (ps:=["deed"]) fun _ _ _ _ _ _ us hl=>match us,hl with | [_],_=>rfl
 have C10:Cal K mg "words_of" f10 _ ["deed"]:=⟨Aw X G a10,F10.kp,B10⟩
 have B11:=F11.binds (ps:=["procedure"]) fun _ _ _ _ _ _ us hl=>match us,hl with | [_],_=>rfl
 have C11:Cal K mg "names_in" f11 _ ["procedure"]:=⟨Aw X G a11,F11.kp,B11⟩
 have B12:=F12.binds (ps:=["program"]) fun _ _ _ _ _ _ us hl=>match us,hl with | [_],_=>rfl
 have C12:Cal K mg "by_names" f12 _ ["program"]:=⟨Aw X G a12,F12.kp,B12⟩
 have B13:=F13.binds (ps:=["body","path"]) fun _ _ _ _ _ _ us hl=>match us,hl with | [_,_],_=>rfl
 have C13:Cal K mg "list_of" f13 _ ["body","path"]:=⟨Aw X G a13,F13.kp,B13⟩
 have B14:=F14.binds (ps:=["body","path"]) fun _ _ _ _ _ _ us hl=>match us,hl with | [_,_],_=>rfl
 have C14:Cal K mg "found_at" f14 _ ["body","path"]:=⟨Aw X G a14,F14.kp,B14⟩
 have B15:=F15.binds (ps:=["path"]) fun _ _ _ _ _ _ us hl=>match us,hl with | [_],_=>rfl
 have C15:Cal K mg "behind_deed" f15 _ ["path"]:=⟨Aw X G a15,F15.kp,B15⟩
 have B16:=F16.binds (ps:=["body","path"]) fun _ _ _ _ _ _ us hl=>match us,hl with | [_,_],_=>rfl
 have C16:Cal K mg "settled" f16 _ ["body","path"]:=⟨Aw X G a16,F16.kp,B16⟩
 have B17:=F17.binds (ps:=["_law_script","_law_k"]) fun _ _ _ _ _ _ us hl=>match us,hl with | [_,_],_=>rfl
 have C17:Cal K mg "_law_cell_at" f17 _ ["_law_script","_law_k"]:=⟨Aw X G a17,F17.kp,B17⟩
 have B18:=F18.binds (ps:=["_law_cell","_law_k"]) fun _ _ _ _ _ _ us hl=>match us,hl with | [_,_],_=>rfl
 have C18:Cal K mg "_law_rich" f18 _ ["_law_cell","_law_k"]:=⟨Aw X G a18,F18.kp,B18⟩
 have B19:=F19.binds (ps:=["_law_cell","_law_k"]) fun _ _ _ _ _ _ us hl=>match us,hl with | [_,_],_=>rfl
 have C19:Cal K mg "_law_fed" f19 _ ["_law_cell","_law_k"]:=⟨Aw X G a19,F19.kp,B19⟩
 have B20:=F20.binds (ps:=["_law_digits","_law_many"]) fun _ _ _ _ _ _ us hl=>match us,hl with | [_,_],_=>rfl
 have C20:Cal K mg "_law_digit" f20 _ ["_law_digits","_law_many"]:=⟨Aw X G a20,F20.kp,B20⟩
 have B21:=F21.binds (ps:=["_law_name","_law_names_here"]) fun _ _ _ _ _ _ us hl=>match us,hl with | [_,_],_=>rfl
 have C21:Cal K mg "_law_unlike" f21 _ ["_law_name","_law_names_here"]:=⟨Aw X G a21,F21.kp,B21⟩
 have B22:=F22.binds (ps:=["_law_base","_law_place_here","_law_many"]) fun _ _ _ _ _ _ us hl=>match us,hl with | [_,_,_],_=>rfl
 have C22:Cal K mg "_law_names" f22 _ ["_law_base","_law_place_here","_law_many"]:=⟨Aw X G a22,F22.kp,B22⟩
 have B23:=F23.binds (ps:=["_law_blocks"]) fun _ _ _ _ _ _ us hl=>match us,hl with | [_],_=>rfl
 have C23:Cal K mg "_law_closed" f23 _ ["_law_blocks"]:=⟨Aw X G a23,F23.kp,B23⟩
 have B24:=F24.binds (ps:=["_law_cells","_law_own","_law_every"]) fun _ _ _ _ _ _ us hl=>match us,hl with | [_,_,_],_=>rfl
 have C24:Cal K mg "_law_body" f24 _ ["_law_cells","_law_own","_law_every"]:=⟨Aw X G a24,F24.kp,B24⟩
 have B25:=F25.binds (ps:=["_law_body_here","_law_path_here"]) fun _ _ _ _ _ _ us hl=>match us,hl with | [_,_],_=>rfl
 have C25:Cal K mg "_law_opened" f25 _ ["_law_body_here","_law_path_here"]:=⟨Aw X G a25,F25.kp,B25⟩
 have B26:=F26.binds (ps:=["_law_todo"]) fun _ _ _ _ _ _ us hl=>match us,hl with | [_],_=>rfl
 have C26:Cal K mg "_law_settle" f26 _ ["_law_todo"]:=⟨Aw X G a26,F26.kp,B26⟩
 have B27:=F27.binds (ps:=["_law_todo"]) fun _ _ _ _ _ _ us hl=>match us,hl with | [_],_=>rfl
 have C27:Cal K mg "_law_place" f27 _ ["_law_todo"]:=⟨Aw X G a27,F27.kp,B27⟩
 have B28:=F28.binds (ps:=["_law_body_here","_law_cell"]) fun _ _ _ _ _ _ us hl=>match us,hl with | [_,_],_=>rfl
 have C28:Cal K mg "_law_path" f28 _ ["_law_body_here","_law_cell"]:=⟨Aw X G a28,F28.kp,B28⟩
 have B29:=F29.binds (ps:=["_law_todo","_law_deed","_law_holds_now"]) fun _ _ _ _ _ _ us hl=>match us,hl with | [_,_,_],_=>rfl
 have C29:Cal K mg "_law_chosen" f29 _ ["_law_todo","_law_deed","_law_holds_now"]:=⟨Aw X G a29,F29.kp,B29⟩
 have B30:=F30.binds (ps:=["_law_deeds","_law_found"]) fun _ _ _ _ _ _ us hl=>match us,hl with | [_,_],_=>rfl
 have C30:Cal K mg "_law_said" f30 _ ["_law_deeds","_law_found"]:=⟨Aw X G a30,F30.kp,B30⟩
 have B31:=F31.binds (ps:=["_law_machine","_law_name","_law_todo","_law_values"]) fun _ _ _ _ _ _ us hl=>match us,hl with | [_,_,_,_],_=>rfl
 have C31:Cal K mg "_law_stands" f31 _ ["_law_machine","_law_name","_law_todo","_law_values"]:=⟨Aw X G a31,F31.kp,B31⟩
 have B32:=F32.binds (ps:=["_law_todo","_law_values"]) fun _ _ _ _ _ _ us hl=>match us,hl with | [_,_],_=>rfl
 have C32:Cal K mg "_law_step" f32 _ ["_law_todo","_law_values"]:=⟨Aw X G a32,F32.kp,B32⟩
 have B34:=F34.binds (ps:=["self","procedure","path","numbers","receiver"]) fun _ _ _ _ _ _ us hl=>match us,hl with | [_,_,_,_,_],_=>rfl
 have C34:MCal K CF "__init__" f34 _ ["self","procedure","path","numbers","receiver"]:=⟨⟨a34,i34,F34.kp⟩,B34⟩
 have B35:=F35.binds (ps:=["self"]) fun _ _ _ _ _ _ us hl=>match us,hl with | [_],_=>rfl
 have C35:MCal K CF "deed" f35 _ ["self"]:=⟨⟨a35,i35,F35.kp⟩,B35⟩
 have B36:=F36.binds (ps:=["self","path"]) fun _ _ _ _ _ _ us hl=>match us,hl with | [_,_],_=>rfl
 have C36:MCal K CF "move" f36 _ ["self","path"]:=⟨⟨a36,i36,F36.kp⟩,B36⟩
 have B37:=F37.binds (ps:=["self","word"]) fun _ _ _ _ _ _ us hl=>match us,hl with | [_,_],_=>rfl
 have C37:MCal K CF "number" f37 _ ["self","word"]:=⟨⟨a37,i37,F37.kp⟩,B37⟩
 have B38:=F38.binds (ps:=["self","program","name","path","values","heap"]) fun _ _ _ _ _ _ us hl=>match us,hl with | [_,_,_,_,_,_],_=>rfl
 have C38:MCal K CM "__init__" f38 _ ["self","program","name","path","values","heap"]:=⟨⟨a38,i38,F38.kp⟩,B38⟩
 have B39:=F39.binds (ps:=["self"]) fun _ _ _ _ _ _ us hl=>match us,hl with | [_],_=>rfl
 have C39:MCal K CM "word" f39 _ ["self"]:=⟨⟨a39,i39,F39.kp⟩,B39⟩
 have B40:=F40.binds (ps:=["self"]) fun _ _ _ _ _ _ us hl=>match us,hl with | [_],_=>rfl
 have C40:MCal K CM "where" f40 _ ["self"]:=⟨⟨a40,i40,F40.kp⟩,B40⟩
 have B41:=F41.binds (ps:=["self"]) fun _ _ _ _ _ _ us hl=>match us,hl with | [_],_=>rfl
 have C41:MCal K CM "held" f41 _ ["self"]:=⟨⟨a41,i41,F41.kp⟩,B41⟩
 have B42:=F42.binds (ps:=["self"]) fun _ _ _ _ _ _ us hl=>match us,hl with | [_],_=>rfl
 have C42:MCal K CM "heap" f42 _ ["self"]:=⟨⟨a42,i42,F42.kp⟩,B42⟩
 have B43:=F43.binds (ps:=["self"]) fun _ _ _ _ _ _ us hl=>match us,hl with | [_],_=>rfl
 have C43:MCal K CM "step" f43 _ ["self"]:=⟨⟨a43,i43,F43.kp⟩,B43⟩
 have B44:=F44.binds (ps:=["self","frame","deed"]) fun _ _ _ _ _ _ us hl=>match us,hl with | [_,_,_],_=>rfl
 have C44:MCal K CM "branch" f44 _ ["self","frame","deed"]:=⟨⟨a44,i44,F44.kp⟩,B44⟩
 have B45:=F45.binds (ps:=["self","frame","deed"]) fun _ _ _ _ _ _ us hl=>match us,hl with | [_,_,_],_=>rfl
 have C45:MCal K CM "enter" f45 _ ["self","frame","deed"]:=⟨⟨a45,i45,F45.kp⟩,B45⟩
 have B46:=F46.binds (ps:=["self"]) fun _ _ _ _ _ _ us hl=>match us,hl with | [_],_=>rfl
 have C46:MCal K CM "leave_ended" f46 _ ["self"]:=⟨⟨a46,i46,F46.kp⟩,B46⟩
 have B47:=F47.binds (ps:=["self","frame","deed"]) fun _ _ _ _ _ _ us hl=>match us,hl with | [_,_,_],_=>rfl
 have C47:MCal K CM "change" f47 _ ["self","frame","deed"]:=⟨⟨a47,i47,F47.kp⟩,B47⟩
 have C:Con K mg w:={
   len:=AK X G z1
   all:=AK X G z2
   any:=AK X G z3
   isi:=AK X G z4
   list:=AK X G z5
   int:=AK X G z6
   bool:=AK X G z7
   str:=AK X G z8
   dict:=AK X G z9
   sorted:=AK X G z10
   set:=AK X G z11
   sum:=AK X G z12
   range:=AK X G z13
   tuple:=AK X G z14
   max:=AK X G z15
   zip:=AK X G z16
   min:=AK X G z17
   enumerate:=AK X G z18
   letters:=x9 X G gL eL
   figures:=x9 X G gF eF
   mostSigns:=a6b X G gS eS
   noNames:=⟨aN,kn X G gN,fun _=>.inr ⟨oN,itN,nN,lN,cN,dN,Ax sN (by decide),vN⟩⟩
   fields:=⟨aT,kn X G gT,(fun _=>.inr ⟨oT,itT,nT,lT,cT,dT,Ax sT (by decide),vT⟩),oT,lT,cT,bT⟩
   places:=⟨aE,kn X G gE,ec,nE,lE,hE,mE,rE⟩
   forms:=⟨aP,[("set",t1),("read",t2),("write",t3),("new",t4),("free",t5)],kn X G gP,⟨es,nP,lP,hP,mP,rP⟩,rfl,fun w t r h1 h2 H=>by
     have S1:SqT K H t1 (([("name" : Str),"value"]:List Str).map V.str):=.inr ⟨o1,it1,n1,lT1,cT1,dT1,Ax sT1 (by decide),vT1⟩
     have S2:SqT K H t2 (([("name" : Str),"name","field"]:List Str).map V.str):=.inr ⟨o2,it2,n2,lT2,cT2,dT2,Ax sT2 (by decide),vT2⟩
     have S3:SqT K H t3 (([("name" : Str),"field","value"]:List Str).map V.str):=.inr ⟨o3,it3,n3,lT3,cT3,dT3,Ax sT3 (by decide),vT3⟩
     have S4:SqT K H t4 (([("name" : Str),"value","value"]:List Str).map V.str):=.inr ⟨o4,it4,n4,lT4,cT4,dT4,Ax sT4 (by decide),vT4⟩
     have S5:SqT K H t5 (([("name" : Str)]:List Str).map V.str):=.inr ⟨o5,it5,n5,lT5,cT5,dT5,Ax sT5 (by decide),vT5⟩
     have hl:=ko qj h2
     simp only[Al,AN,or_false,Prod.mk.injEq] at h1
     rcases h1 with⟨rfl,rfl⟩|⟨rfl,rfl⟩|⟨rfl,rfl⟩|⟨rfl,rfl⟩|⟨rfl,rfl⟩
     . rw[show forms.lookup ("set" : Str)=some [("name" : Str),"value"] by decide +kernel] at hl;cases hl;exact S1
     . rw[show forms.lookup ("read" : Str)=some [("name" : Str),"name","field"] by decide +kernel] at hl;cases hl;exact S2
     . rw[show forms.lookup ("write" : Str)=some [("name" : Str),"field","value"] by decide +kernel] at hl;cases hl;exact S3
     . rw[show forms.lookup ("new" : Str)=some [("name" : Str),"value","value"] by decide +kernel] at hl;cases hl;exact S4
     . rw[show forms.lookup ("free" : Str)=some [("name" : Str)] by decide +kernel] at hl;cases hl;exact S5⟩ }
 obtain⟨_,_,kV,dc,pm,an,cd,ct,_,rfl,_,_⟩:=id F33.ex
 refine⟨Dq "law" "law" (jq sLaw) (i4 sLaw) (au sLaw) .none kV dc pm an cd ct,fun s v=>.of_eq rfl,fun base _ _=>?_⟩
 have O1:=a3d (P:=l.prog) (base:=base) C F1
 have O2:=a1d (P:=l.prog) (base:=base) C F2
 have U:TxF K mg CF f34:=⟨⟨pgFrame,hdFrame,poFrame,saFrame⟩,nFrame0,nFrame1,nFrame2,nFrame3,Aw X G aCFrame,⟨mkFrame,a34,i34,kcFrame⟩⟩
 have T:TxM K mg CM f38:=⟨⟨pgMachine,hdMachine,poMachine,saMachine⟩,nMachine0,nMachine1,nMachine2,nMachine3,nMachine4,Aw X G aCMachine,⟨mkMachine,a38,i38,kcMachine⟩⟩
 have O5:=a0n (P:=l.prog) (base:=base) C F5
 have s0:FnOk l.prog w K mg base CX0 1 f9 d9 ["deeds"] (spAll K []):=a84
 have s1:=jp (n:=0) (b:=30) (bs:=B 0) C F9 O5 C5 s0 C9
 have s2:=jp (n:=1) (b:=30) (bs:=B 1) C F9 O5 C5 s1 C9
 have s3:=jp (n:=2) (b:=30) (bs:=B 2) C F9 O5 C5 s2 C9
 have s4:=jp (n:=3) (b:=30) (bs:=B 3) C F9 O5 C5 s3 C9
 have s5:=jp (n:=4) (b:=30) (bs:=B 4) C F9 O5 C5 s4 C9
 have O10:=yj  C F10 O2 C2
 have O11:=a0m (n:=5) (bs:=B 5) (by decide) C F11 O2 C2 s5 C9 O10 C10 O1 C1
 have O12:=a1b (P:=l.prog) (base:=base) C F12
 have O13:=a1r  C F13 O5 C5
 have O14:=a55  C F14 O13 C13
 have O15:=a4k (P:=l.prog) (base:=base) C F15
 have O16:=a0d  C F16 O13 C13 O14 C14 O15 C15
 have w0:FnOk l.prog w K mg base CX0 1 f7 d7 ["deeds"] (spCopy K []):=a4w
 have v1:=jg (n:=0) (bs:=B 0) C F6 w0 C7
 have w1:=im (n:=1) (b:=30) (bs:=B 0) (by decide) C F7 v1 C6
 have v2:=jg (n:=2) (bs:=B 1) C F6 w1 C7
 have w2:=im (n:=3) (b:=30) (bs:=B 1) (by decide) C F7 v2 C6
 have v3:=jg (n:=4) (bs:=B 2) C F6 w2 C7
 have w3:=im (n:=5) (b:=30) (bs:=B 2) (by decide) C F7 v3 C6
 have v4:=jg (n:=6) (bs:=B 3) C F6 w3 C7
 have w4:=im (n:=7) (b:=30) (bs:=B 3) (by decide) C F7 v4 C6
 have v5:=jg (n:=8) (bs:=B 4) C F6 w4 C7
 have w5:=im (n:=9) (b:=30) (bs:=B 4) (by decide) C F7 v5 C6
 have O3:=a56 (P:=l.prog) (base:=base) C F3
 have O4:=a4x  C F4 O3 C3
 have O8:=yn (P:=l.prog) (base:=base) C F8
 have O37:=a7j  U F37 O3 C3
 have O35:=a5n  U F35 O14 C14
 have O36:=a68  U F36 O16 C16
 have O34:=a67 (n:=7) (bs:=B 5) (by decide) C U F34 O16 C16 (O11.mono (by decide)) C11
 have O41:=a8a (P:=l.prog) (base:=base) C T U F41
 have O42:=a89 (P:=l.prog) (base:=base) C T F42
 have O39:=a7f  C T U F39 O35 C35
 have O47:=a4n  C T U F47 O37 C37
 have O46:=a3p  C T U F46 O35 C35
 have O44:=a4h  C U F44 O4 C4 O36 C36 O15 C15
 have O43:=a8u  C T U F43 O39 C39 O35 C35 O37 C37 O44 C44 C45 O47 C47 O36 C36 O46 C46 O8 C8 O15 C15
 have O38:=a4z (n:=11) (bs:=B 5) C T U F38 w5 C7 O12 C12 (O34.mono (by decide)) B34
 have O17:=a4j (P:=l.prog) (base:=base) C F17
 have O18:=a8l (P:=l.prog) (w:=w) (mg:=mg) (base:=base) F18
 have O19:=a96  F19 O18 C18
 have O20:=a62 (P:=l.prog) (w:=w) (mg:=mg) (base:=base) F20
 have O21:=a49 (P:=l.prog) (base:=base) C F21
 have O22:=a5w  C F22 O19 C19 O20 C20 O21 C21
 have O40:=a53  C T U F40 O39 C39
 have O23:=a4c (P:=l.prog) (base:=base) C F23
 have O24:=a8c  C F24 O19 C19 O20 C20 O23 C23
 have O25:=a3m (P:=l.prog) (base:=base) C F25
 have O26:=a0o (P:=l.prog) (base:=base) C F26
 have O27:=a6h (P:=l.prog) (base:=base) C F27
 have O28:=a7x (P:=l.prog) (base:=base) C F28
 have O29:=a2o  C F29 O27 C27
 have y0:FnOk l.prog w K mg base CX0 1 f30 d30 ["_law_deeds","_law_found"] (spSaid K []):=a61
 have y1:=iy (n:=0) (b:=30) (bs:=B 0) C F30 y0 C30
 have y2:=iy (n:=1) (b:=30) (bs:=B 1) C F30 y1 C30
 have y3:=iy (n:=2) (b:=30) (bs:=B 2) C F30 y2 C30
 have y4:=iy (n:=3) (b:=30) (bs:=B 3) C F30 y3 C30
 have y5:=iy (n:=4) (b:=30) (bs:=B 4) C F30 y4 C30
 have O31:=a3z  C T U F31 O39 C39 O40 C40 O41 C41 O42 C42 O27 C27
 have O32:=a50  C F32 O29 C29 O26 C26
 exact a8y (n:=13) (by decide) C T U F33 O17 C17 O22 C22 O24 C24 y5 C30 O19 C19 O20 C20 O28 C28 O25 C25 O26 C26 O31 C31 O32 C32 O38 B38 (O43.mono (by decide)) C43
theorem walk {l:FT}{q:Program}{loose:List Str}{XP:(Str->Option Value)->Heap->Prop}{YP:World->Heap->Prop}{d:DefRec}{K:Params->Ab}(hn:l.most=some 63) (hdf:d.params.defaults=[])
   (hY:∀(w:World) (h:Heap),YP w h->(K w.params).In h)
   (F:∀(w:World) (mg:Str->Option Value) (fa:Addr) (h:Heap),(K w.params).In h->h.Ns mainGlobals mg->mg d.name=some (.ref fa)->
     ∃fd:FuncData,(∀(s:Shared) (u:Value),BindsTo s fd ⟨[u],[]⟩ [("_law_script",u)])/\∀base:Heap,(K w.params).In base->base.Ns mainGlobals mg->FnOk l.prog w (K w.params) mg base CX0 15 fa fd ["_law_script"] (v7 (K w.params))) :
   II q loose XP YP l.row.toRowW d [] (fun f vs=>Ir f vs) :=
 L2.walk_of (n:=63) (k:=15) (x := "_law_script") (CX:=fun _=>CX0) (sp:=fun w=>v7 (K w.params)) hn (by decide) hdf ⟨rfl,by decide,by decide⟩ hY F (fun _ _ a ns hl _ hS=>⟨a,ns,rfl,hS,fun _=>rfl⟩) fun _ _ _ _ _ z=>z
end K51
open PySem PySem.W PyProof.Rows
namespace PySem.W.Fast
theorem tw7568669094826459543 : True := ⟨⟩
theorem tw7307754276483051684 : True := ⟨⟩
theorem tw559273865404776722 : True := ⟨⟩
theorem tw11960609903912724887 : True := ⟨⟩
theorem tw119665640189494790 : True := ⟨⟩
theorem tw13309739419544457371 : True := ⟨⟩
theorem tw14122093103489867082 : True := ⟨⟩
theorem tw9021234716097429287 : True := ⟨⟩
theorem tw11120130320849180025 : True := ⟨⟩
theorem tw91228027455210721 : True := ⟨⟩
theorem tw11863885420535415778 : True := ⟨⟩
theorem tw15644679533856505647 : True := ⟨⟩
theorem tw1528913024855582421 : True := ⟨⟩
theorem tw18061082553379247446 : True := ⟨⟩
theorem tw7813793348992542706 : True := ⟨⟩
theorem tw15451521041359781898 : True := ⟨⟩
theorem tw12012331560184744856 : True := ⟨⟩
theorem tw14187220591235410407 : True := ⟨⟩
theorem tw10173238208322247305 : True := ⟨⟩
theorem tw13803465409620933891 : True := ⟨⟩
theorem tw17296758008149998659 : True := ⟨⟩
theorem tw14094372308690584208 : True := ⟨⟩
theorem tw1220286487543767468 : True := ⟨⟩
theorem tw9207476796548886321 : True := ⟨⟩
theorem tw2750811734057615906 : True := ⟨⟩
theorem tw3385893386362142219 : True := ⟨⟩
theorem tw6682050478033026996 : True := ⟨⟩
theorem tw65522756347963037 : True := ⟨⟩
theorem tw7557528850075101898 : True := ⟨⟩
theorem tw17562701894239938070 : True := ⟨⟩
theorem tw3420444592783993017 : True := ⟨⟩
theorem tw16591101425876923805 : True := ⟨⟩
theorem tw3882158927773587595 : True := ⟨⟩
theorem tw9705004312634861017 : True := ⟨⟩
theorem tw2438161577268192650 : True := ⟨⟩
theorem tw10809546058148630316 : True := ⟨⟩
theorem tw3302767279199958359 : True := ⟨⟩
theorem tw7017753019386593108 : True := ⟨⟩
theorem tw16707724778715413187 : True := ⟨⟩
theorem tw16126007637500897935 : True := ⟨⟩
theorem tw3577305589641647681 : True := ⟨⟩
theorem tw4748417693772564688 : True := ⟨⟩
theorem tw2750106946243409912 : True := ⟨⟩
theorem tw15456347290701570366 : True := ⟨⟩
theorem tw8153598799394400283 : True := ⟨⟩
theorem tw9376552014379961217 : True := ⟨⟩
theorem tw3409565593552097607 : True := ⟨⟩
theorem tw8581642820498756515 : True := ⟨⟩
theorem tw17368377447165843106 : True := ⟨⟩
theorem tw12845070816013062311 : True := ⟨⟩
theorem tw15829482224809445078 : True := ⟨⟩
theorem tw7167245064058333028 : True := ⟨⟩
theorem tw5988251446523604985 : True := ⟨⟩
theorem tw7123580119115533621 : True := ⟨⟩
theorem tw9501147799953857163 : True := ⟨⟩
theorem tw5845628050243810075 : True := ⟨⟩
theorem tw17466681904592581725 : True := ⟨⟩
theorem tw1483654009946889558 : True := ⟨⟩
theorem tw16516441286889490496 : True := ⟨⟩
theorem tw3187532457804232151 : True := ⟨⟩
theorem tw9272479515404636707 : True := ⟨⟩
theorem tw10083323757178658812 : True := ⟨⟩
theorem tw14421778501482450585 : True := ⟨⟩
theorem tw17024392289665624084 : True := ⟨⟩
theorem tw3126333220437028323 : True := ⟨⟩
theorem tw13936576450327623637 : True := ⟨⟩
theorem tw6585047306171185333 : True := ⟨⟩
theorem tw16846842524708572850 : True := ⟨⟩
theorem tw6297605081338461316 : True := ⟨⟩
theorem tw8430122748464227810 : True := ⟨⟩
theorem tw6650595752596711127 : True := ⟨⟩
theorem tw17225906876985095262 : True := ⟨⟩
theorem tw16042602749045554143 : True := ⟨⟩
theorem tw400909521077562650 : True := ⟨⟩
theorem tw3454283119955169327 : True := ⟨⟩
theorem tw18302615651353137607 : True := ⟨⟩
theorem tw3013196936186771839 : True := ⟨⟩
theorem tw237273381024523358 : True := ⟨⟩
theorem tw10681289863303203450 : True := ⟨⟩
theorem tw4808427374321985749 : True := ⟨⟩
theorem tw14592732365617520255 : True := ⟨⟩
theorem tw5816643361735833544 : True := ⟨⟩
theorem tw7141982226430787980 : True := ⟨⟩
theorem tw6715314701733050218 : True := ⟨⟩
theorem tw12490611491344154242 : True := ⟨⟩
theorem tw14551646685175203809 : True := ⟨⟩
theorem tw13278301495952024659 : True := ⟨⟩
theorem tw1076019257263209875 : True := ⟨⟩
theorem tw14265154038148858243 : True := ⟨⟩
theorem tw15717522963058111983 : True := ⟨⟩
theorem tw4025440200770410401 : True := ⟨⟩
theorem tw5346502422920516188 : True := ⟨⟩
theorem tw17961806565655003525 : True := ⟨⟩
theorem tw8823375493109227828 : True := ⟨⟩
theorem tw7893992404058944643 : True := ⟨⟩
theorem tw5449894227418119702 : True := ⟨⟩
theorem tw4743869226617989611 : True := ⟨⟩
theorem tw18375186903951788249 : True := ⟨⟩
theorem tw166129370094861692 : True := ⟨⟩
theorem tw11712749929707793402 : True := ⟨⟩
theorem tw8534988661318217306 : True := ⟨⟩
theorem tw6685944683178017249 : True := ⟨⟩
theorem tw11925712008726755842 : True := ⟨⟩
theorem tw5145544782837429889 : True := ⟨⟩
theorem tw1899574850837865237 : True := ⟨⟩
theorem tw14917510621278414836 : True := ⟨⟩
theorem tw11730745460739664524 : True := ⟨⟩
theorem tw13176007008477773999 : True := ⟨⟩
theorem tw5883292894691855004 : True := ⟨⟩
theorem tw6475832558533348001 : True := ⟨⟩
theorem tw17931289801437658012 : True := ⟨⟩
theorem tw11591132224084139788 : True := ⟨⟩
theorem tw10408917712361452391 : True := ⟨⟩
theorem tw13526964736525419955 : True := ⟨⟩
theorem tw5880343898585404408 : True := ⟨⟩
theorem tw18406142327558151241 : True := ⟨⟩
theorem tw17835927718110488546 : True := ⟨⟩
theorem tw2032223019404757071 : True := ⟨⟩
theorem tw13031164850281980901 : True := ⟨⟩
theorem tw16780924193344830231 : True := ⟨⟩
theorem tw1163028708904316698 : True := ⟨⟩
theorem tw16197428001198205558 : True := ⟨⟩
theorem tw5819917796292483902 : True := ⟨⟩
theorem tw5249683590206562181 : True := ⟨⟩
theorem tw14377488531318143409 : True := ⟨⟩
theorem tw2892484360400549577 : True := ⟨⟩
theorem tw13444326986570351461 : True := ⟨⟩
theorem tw6760768429201393568 : True := ⟨⟩
theorem tw1444177653639659026 : True := ⟨⟩
end PySem.W.Fast
set_option maxRecDepth 100000 in
set_option maxHeartbeats 0 in
theorem PySem.Challenge.cw_apart_k51_ifs_and_whiles_holds : PySem.Challenge.rw_apart_k51_ifs_and_whiles.Holds := by
 w_on; o_law; k_head; (case hw => w_witness2)
 k_fill
 refine K51.walk (l := PySem.Challenge.rw_apart_k51_ifs_and_whiles) rfl rfl (fun w h Y => PySem.W.kIn_of Y) ?F
 case F =>
   intro w mg fa h KX G hmg
   refine' K51.all_mk KX G hmg ?aCFrame ?aCMachine ?a1 ?F1 ?a2 ?F2 ?a3 ?F3 ?a4 ?F4 ?a5 ?F5 ?a6 ?F6 ?a7 ?F7 ?a8 ?F8 ?a9 ?F9 ?a10 ?F10 ?a11 ?F11 ?a12 ?F12 ?a13 ?F13 ?a14 ?F14 ?a15 ?F15 ?a16 ?F16 ?a17 ?F17 ?a18 ?F18 ?a19 ?F19 ?a20 ?F20 ?a21 ?F21 ?a22 ?F22 ?a23 ?F23 ?a24 ?F24 ?a25 ?F25 ?a26 ?F26 ?a27 ?F27 ?a28 ?F28 ?a29 ?F29 ?a30 ?F30 ?a31 ?F31 ?a32 ?F32 ?a33 ?F33 ?a34 ?i34 ?F34 ?a35 ?i35 ?F35 ?a36 ?i36 ?F36 ?a37 ?i37 ?F37 ?a38 ?i38 ?F38 ?a39 ?i39 ?F39 ?a40 ?i40 ?F40 ?a41 ?i41 ?F41 ?a42 ?i42 ?F42 ?a43 ?i43 ?F43 ?a44 ?i44 ?F44 ?a45 ?i45 ?F45 ?a46 ?i46 ?F46 ?a47 ?i47 ?F47 ?pgFrame ?hdFrame ?poFrame ?saFrame ?mkFrame ?kcFrame ?nFrame0 ?nFrame1 ?nFrame2 ?nFrame3 ?pgMachine ?hdMachine ?poMachine ?saMachine ?mkMachine ?kcMachine ?nMachine0 ?nMachine1 ?nMachine2 ?nMachine3 ?nMachine4 ?z1 ?z2 ?z3 ?z4 ?z5 ?z6 ?z7 ?z8 ?z9 ?z10 ?z11 ?z12 ?z13 ?z14 ?z15 ?z16 ?z17 ?z18 ?gL ?eL ?gF ?eF ?gS ?eS ?gN ?lN ?cN ?dN ?sN ?vN ?gT ?lT ?cT ?dT ?sT ?bT ?vT ?gP ?lP ?hP ?mP ?rP ?lT1 ?cT1 ?dT1 ?sT1 ?vT1 ?lT2 ?cT2 ?dT2 ?sT2 ?vT2 ?lT3 ?cT3 ?dT3 ?sT3 ?vT3 ?lT4 ?cT4 ?dT4 ?sT4 ?vT4 ?lT5 ?cT5 ?dT5 ?sT5 ?vT5 ?gE ?lE ?hE ?mE ?rE
   (case aCFrame => k_is)
   (case aCMachine => k_is)
   (case a1 => k_is)
   (case F1 => (refine' L2.fun_mk ?l ?c ?k; (case l => k_is); (case c => k_is); (case k => k_is)))
   (case a2 => k_is)
   (case F2 => (refine' L2.fun_mk ?l ?c ?k; (case l => k_is); (case c => k_is); (case k => k_is)))
   (case a3 => k_is)
   (case F3 => (refine' L2.fun_mk ?l ?c ?k; (case l => k_is); (case c => k_is); (case k => k_is)))
   (case a4 => k_is)
   (case F4 => (refine' L2.fun_mk ?l ?c ?k; (case l => k_is); (case c => k_is); (case k => k_is)))
   (case a5 => k_is)
   (case F5 => (refine' L2.fun_mk ?l ?c ?k; (case l => k_is); (case c => k_is); (case k => k_is)))
   (case a6 => k_is)
   (case F6 => (refine' L2.fun_mk ?l ?c ?k; (case l => k_is); (case c => k_is); (case k => k_is)))
   (case a7 => k_is)
   (case F7 => (refine' L2.fun_mk ?l ?c ?k; (case l => k_is); (case c => k_is); (case k => k_is)))
   (case a8 => k_is)
   (case F8 => (refine' L2.fun_mk ?l ?c ?k; (case l => k_is); (case c => k_is); (case k => k_is)))
   (case a9 => k_is)
   (case F9 => (refine' L2.fun_mk ?l ?c ?k; (case l => k_is); (case c => k_is); (case k => k_is)))
   (case a10 => k_is)
   (case F10 => (refine' L2.fun_mk ?l ?c ?k; (case l => k_is); (case c => k_is); (case k => k_is)))
   (case a11 => k_is)
   (case F11 => (refine' L2.fun_mk ?l ?c ?k; (case l => k_is); (case c => k_is); (case k => k_is)))
   (case a12 => k_is)
   (case F12 => (refine' L2.fun_mk ?l ?c ?k; (case l => k_is); (case c => k_is); (case k => k_is)))
   (case a13 => k_is)
   (case F13 => (refine' L2.fun_mk ?l ?c ?k; (case l => k_is); (case c => k_is); (case k => k_is)))
   (case a14 => k_is)
   (case F14 => (refine' L2.fun_mk ?l ?c ?k; (case l => k_is); (case c => k_is); (case k => k_is)))
   (case a15 => k_is)
   (case F15 => (refine' L2.fun_mk ?l ?c ?k; (case l => k_is); (case c => k_is); (case k => k_is)))
   (case a16 => k_is)
   (case F16 => (refine' L2.fun_mk ?l ?c ?k; (case l => k_is); (case c => k_is); (case k => k_is)))
   (case a17 => k_is)
   (case F17 => (refine' L2.fun_mk ?l ?c ?k; (case l => k_is); (case c => k_is); (case k => k_is)))
   (case a18 => k_is)
   (case F18 => (refine' L2.fun_mk ?l ?c ?k; (case l => k_is); (case c => k_is); (case k => k_is)))
   (case a19 => k_is)
   (case F19 => (refine' L2.fun_mk ?l ?c ?k; (case l => k_is); (case c => k_is); (case k => k_is)))
   (case a20 => k_is)
   (case F20 => (refine' L2.fun_mk ?l ?c ?k; (case l => k_is); (case c => k_is); (case k => k_is)))
   (case a21 => k_is)
   (case F21 => (refine' L2.fun_mk ?l ?c ?k; (case l => k_is); (case c => k_is); (case k => k_is)))
   (case a22 => k_is)
   (case F22 => (refine' L2.fun_mk ?l ?c ?k; (case l => k_is); (case c => k_is); (case k => k_is)))
   (case a23 => k_is)
   (case F23 => (refine' L2.fun_mk ?l ?c ?k; (case l => k_is); (case c => k_is); (case k => k_is)))
   (case a24 => k_is)
   (case F24 => (refine' L2.fun_mk ?l ?c ?k; (case l => k_is); (case c => k_is); (case k => k_is)))
   (case a25 => k_is)
   (case F25 => (refine' L2.fun_mk ?l ?c ?k; (case l => k_is); (case c => k_is); (case k => k_is)))
   (case a26 => k_is)
   (case F26 => (refine' L2.fun_mk ?l ?c ?k; (case l => k_is); (case c => k_is); (case k => k_is)))
   (case a27 => k_is)
   (case F27 => (refine' L2.fun_mk ?l ?c ?k; (case l => k_is); (case c => k_is); (case k => k_is)))
   (case a28 => k_is)
   (case F28 => (refine' L2.fun_mk ?l ?c ?k; (case l => k_is); (case c => k_is); (case k => k_is)))
   (case a29 => k_is)
   (case F29 => (refine' L2.fun_mk ?l ?c ?k; (case l => k_is); (case c => k_is); (case k => k_is)))
   (case a30 => k_is)
   (case F30 => (refine' L2.fun_mk ?l ?c ?k; (case l => k_is); (case c => k_is); (case k => k_is)))
   (case a31 => k_is)
   (case F31 => (refine' L2.fun_mk ?l ?c ?k; (case l => k_is); (case c => k_is); (case k => k_is)))
   (case a32 => k_is)
   (case F32 => (refine' L2.fun_mk ?l ?c ?k; (case l => k_is); (case c => k_is); (case k => k_is)))
   (case a33 => k_is)
   (case F33 => (refine' L2.fun_mk ?l ?c ?k; (case l => k_is); (case c => k_is); (case k => k_is)))
   (case a34 => k_is)
   (case i34 => k_is)
   (case F34 => (refine' L2.fun_mk ?l ?c ?k; (case l => k_is); (case c => k_is); (case k => k_is)))
   (case a35 => k_is)
   (case i35 => k_is)
   (case F35 => (refine' L2.fun_mk ?l ?c ?k; (case l => k_is); (case c => k_is); (case k => k_is)))
   (case a36 => k_is)
   (case i36 => k_is)
   (case F36 => (refine' L2.fun_mk ?l ?c ?k; (case l => k_is); (case c => k_is); (case k => k_is)))
   (case a37 => k_is)
   (case i37 => k_is)
   (case F37 => (refine' L2.fun_mk ?l ?c ?k; (case l => k_is); (case c => k_is); (case k => k_is)))
   (case a38 => k_is)
   (case i38 => k_is)
   (case F38 => (refine' L2.fun_mk ?l ?c ?k; (case l => k_is); (case c => k_is); (case k => k_is)))
   (case a39 => k_is)
   (case i39 => k_is)
   (case F39 => (refine' L2.fun_mk ?l ?c ?k; (case l => k_is); (case c => k_is); (case k => k_is)))
   (case a40 => k_is)
   (case i40 => k_is)
   (case F40 => (refine' L2.fun_mk ?l ?c ?k; (case l => k_is); (case c => k_is); (case k => k_is)))
   (case a41 => k_is)
   (case i41 => k_is)
   (case F41 => (refine' L2.fun_mk ?l ?c ?k; (case l => k_is); (case c => k_is); (case k => k_is)))
   (case a42 => k_is)
   (case i42 => k_is)
   (case F42 => (refine' L2.fun_mk ?l ?c ?k; (case l => k_is); (case c => k_is); (case k => k_is)))
   (case a43 => k_is)
   (case i43 => k_is)
   (case F43 => (refine' L2.fun_mk ?l ?c ?k; (case l => k_is); (case c => k_is); (case k => k_is)))
   (case a44 => k_is)
   (case i44 => k_is)
   (case F44 => (refine' L2.fun_mk ?l ?c ?k; (case l => k_is); (case c => k_is); (case k => k_is)))
   (case a45 => k_is)
   (case i45 => k_is)
   (case F45 => (refine' L2.fun_mk ?l ?c ?k; (case l => k_is); (case c => k_is); (case k => k_is)))
   (case a46 => k_is)
   (case i46 => k_is)
   (case F46 => (refine' L2.fun_mk ?l ?c ?k; (case l => k_is); (case c => k_is); (case k => k_is)))
   (case a47 => k_is)
   (case i47 => k_is)
   (case F47 => (refine' L2.fun_mk ?l ?c ?k; (case l => k_is); (case c => k_is); (case k => k_is)))
   (case pgFrame => k_is)
   (case hdFrame => k_is)
   (case poFrame => k_is)
   (case saFrame => k_is)
   (case mkFrame => k_is)
   (case kcFrame => k_is)
   (case nFrame0 => k_is)
   (case nFrame1 => k_is)
   (case nFrame2 => k_is)
   (case nFrame3 => k_is)
   (case pgMachine => k_is)
   (case hdMachine => k_is)
   (case poMachine => k_is)
   (case saMachine => k_is)
   (case mkMachine => k_is)
   (case kcMachine => k_is)
   (case nMachine0 => k_is)
   (case nMachine1 => k_is)
   (case nMachine2 => k_is)
   (case nMachine3 => k_is)
   (case nMachine4 => k_is)
   (case z1 => k_is)
   (case z2 => k_is)
   (case z3 => k_is)
   (case z4 => k_is)
   (case z5 => k_is)
   (case z6 => k_is)
   (case z7 => k_is)
   (case z8 => k_is)
   (case z9 => k_is)
   (case z10 => k_is)
   (case z11 => k_is)
   (case z12 => k_is)
   (case z13 => k_is)
   (case z14 => k_is)
   (case z15 => k_is)
   (case z16 => k_is)
   (case z17 => k_is)
   (case z18 => k_is)
   (case gL => k_is)
   (case eL => decide +kernel)
   (case gF => k_is)
   (case eF => decide +kernel)
   (case gS => k_is)
   (case eS => rfl)
   (case gN => k_is)
   (case lN => k_is)
   (case cN => rfl)
   (case dN => rfl)
   (case sN => decide)
   (case vN => repeat (first | exact .nil | refine .cons ⟨_, rfl⟩ ?_))
   (case gT => k_is)
   (case lT => k_is)
   (case cT => rfl)
   (case dT => rfl)
   (case sT => decide)
   (case bT => rfl)
   (case vT => repeat (first | exact .nil | refine .cons ⟨_, rfl⟩ ?_))
   (case gP => k_is)
   (case lP => k_is)
   (case hP => exact ⟨⟨_, _, rfl, rfl⟩, ⟨_, _, rfl, rfl⟩, ⟨_, _, rfl, rfl⟩, ⟨_, _, rfl, rfl⟩, ⟨_, _, rfl, rfl⟩, trivial⟩)
   (case mP => rfl)
   (case rP => exact K51.rel_find (.cons ⟨_, _, _, rfl, rfl⟩ (.cons ⟨_, _, _, rfl, rfl⟩ (.cons ⟨_, _, _, rfl, rfl⟩ (.cons ⟨_, _, _, rfl, rfl⟩ (.cons ⟨_, _, _, rfl, rfl⟩ (.nil)))))))
   (case lT1 => k_is)
   (case cT1 => rfl)
   (case dT1 => rfl)
   (case sT1 => decide)
   (case vT1 => repeat (first | exact .nil | refine .cons ⟨_, rfl⟩ ?_))
   (case lT2 => k_is)
   (case cT2 => rfl)
   (case dT2 => rfl)
   (case sT2 => decide)
   (case vT2 => repeat (first | exact .nil | refine .cons ⟨_, rfl⟩ ?_))
   (case lT3 => k_is)
   (case cT3 => rfl)
   (case dT3 => rfl)
   (case sT3 => decide)
   (case vT3 => repeat (first | exact .nil | refine .cons ⟨_, rfl⟩ ?_))
   (case lT4 => k_is)
   (case cT4 => rfl)
   (case dT4 => rfl)
   (case sT4 => decide)
   (case vT4 => repeat (first | exact .nil | refine .cons ⟨_, rfl⟩ ?_))
   (case lT5 => k_is)
   (case cT5 => rfl)
   (case dT5 => rfl)
   (case sT5 => decide)
   (case vT5 => repeat (first | exact .nil | refine .cons ⟨_, rfl⟩ ?_))
   (case gE => k_is)
   (case lE => k_is)
   (case hE => exact ⟨⟨_, _, rfl, rfl⟩, ⟨_, _, rfl, rfl⟩, ⟨_, _, rfl, rfl⟩, trivial⟩)
   (case mE => rfl)
   (case rE => exact K51.rel_find (.cons ⟨_, _, _, rfl, ⟨_, rfl⟩⟩ (.cons ⟨_, _, _, rfl, ⟨_, rfl⟩⟩ (.cons ⟨_, _, _, rfl, ⟨_, rfl⟩⟩ (.nil)))))
