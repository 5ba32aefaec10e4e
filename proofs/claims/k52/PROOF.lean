import PyProof.Rows.All
import Wide.All
import OpenK.AllK
import Wide.FinOn
import Lean
import PyProof.EqAt
import PyProof.EqKinds
import PyProof.TupleCall
import PySem.Challenge.RW_apart_k52_calls_within_calls
set_option maxHeartbeats 16000000
set_option Elab.async false
set_option linter.all false
set_option compiler.extract_closed false
set_option maxRecDepth 100000
open PySem renaming wpAny_bind->Aa,wpAny_pure->Ae,Spec->AQ,wpAny_holding->AS,wpAny_newObj_type->AV,wpAny_seqItems->Bb,wpAny_callSpecial?_slot->Bc,wpAny_field->Bd,wpAny_setField_rec->Bf,wpAny_call_entry->Bj,boot_len->Bk,codeAny_builtin->By,mem_of_lookup->BG,wpAny_mono->BH,plainId_quiet->BJ,builtinLookup_eq_fast->Cc,wpAny_rule->Cn,lookup_relabel_local->Cu,wpAny_truthy_bool->Cv,wpAny_pyIter_list->Cw,wpAny_typeOf->CG,wpAny_passesOwn->CK,typeLookup_type->CL,wpAny_attempt->CO,wpAny_tryCatch->CV,wpAny_Call_Name_kw->Do,wpAny_letGo->Dw,wpAny_typeNameOfWhole_keyiter->Dx,wpAny_setState_of->Dz,codeAny_mono->DB,codeAny_call_builtin->DH,wpAny_isInstance->DJ,wpAny_updateSeq_pair->DM,wpAny_updateSeq->DQ,wpAny_pyIter_tuple->DT,tupleKind_room_in1->DY,wpAny_typeNameOf_keyiter->DZ,isSubtype_type->Ec,wpAny_pyNext_list_item->El,wpAny_standAt->Eo,wpAny_onRaise->Er,wpAny_pyNext_list_end->Eu,wpAny_isOneOf_keyiter->Ew,wpAny_notOrdered_dict->Ex,wpAny_execs_nil->E4,wpAny_setEntries_of->EE,wpAny_raiseNew_none->EF,wpAny_fieldsOf->EM,isSubtype_stop->EN,wpAny_setField->ER,wpAny_of_eq->EV,wpAny_assign_Name->Fk,fits_of_scanBound->Fl,wpAny_pyIter_slot->Fm,wpAny_setEpoch_of->Fn,strKind_is->Fs,noFill_tuple_add->Fx,wpAny_comprehension_free->Fz,wpAny_askSetting->FC,call_meetsIn->FH,wpAny_pyIter_zip->FK,wpAny_specialOf->FU,wpAny_pyNext_range_end->FY,wpAny_pyIter_rangeiter->FZ,sizeLine_eq->Ga,wpAny_Call_method_late->Gc,codeAny_compStart_list->Gd,wpAny_nextOf_list_item->Gm,wpAny_isTrue_Compare1->Gp,entryFor_alias->Gv,wpAny_newTuple->GJ,wpAny_call->Hg,typeIs_str->Hh,wpAny_newFunctionEnv->Hj,seq_tuple_add->Hq,wpAny_dictSet_pairs->Hv,Within->Hy,wpAny_pyIter_range->Hz,concat_meets->HE,seqIndex_neg->HG,putSet_of->HJ,wpAny_sequenceKey->HU,slot_list_getitem->HV,wpAny_storeSet_of->HY,wpAny_Call_method->Ie,wpAny_dictEntries->Ig,wpAny_pyIter_enum->Ih,seqIndex_of->Im,wpAny_execs_cons->Io,wpAny_getItem_of->Ir,kt_code_dict_new->Iw,wpAny_Name->IF,wpAny_load->IG,call_meets->IH,call->II,Builtin->IW
open PySem.W renaming Frag->Ab,nsIn->Au,findIn->AA,mg_of->AF,mg_none_of->AU,isFn->Bx,emptyDict->BX,keepIn->Cq,instObj->Cs,plainGet->CW,hasDictIn->Dy,fnOf->DC,plainOver->Eh,makesIn->E5,plainGet_of->ED,lookIn->EJ,callWith_K->EW,methodObj->Fj,takerIn->FS,OpenLaw->FT,KeysLit->FV,cellsFrom_some->Gb,methodCall_KW->Gq,codeIn->Gr,handedIn->Ip,mapOf_K->IK,WalkO->IV
open PySem.Heap renaming get?_push_of_some->Ac,get?_push_size->Ak,lt_size->Ap,size_push->Bh,get?_update_other->Bl,get?_update_self->Bp,SameBut->Ck,get?_none_of_le->Ez,ExtBut->Ge,get?_update_ne->Hu,IsTuple->HM,size_update->Iu
open List renaming length_map->Ad,getElem?_eq_getElem->Af,length_append->Ag,mem_cons_self->Ah,getElem?_map->Ai,mem_append->Al,mem_cons_of_mem->An,getElem?_eq_some_iff->Ao,mem_cons->Aq,mem_of_getElem?->Ar,mem_singleton->As,size_toArray->Av,map_append->Az,mem_map->A9,map_cons->AC,length_cons->AD,not_mem_nil->AE,length_take->AG,mem_map_of_mem->AH,length_singleton->AK,mem_append_right->AO,nodup_cons->AX,length_drop->Be,eq_nil_of_length_eq_zero->Bi,take_of_length_le->Bm,getElem?_eq_none->Bt,take_length->Bv,take_zero->BL,getElem?_toArray->BM,length_filter_le->BN,map_map->BO,append_nil->BP,find?_cons->BQ,mem_of_mem_take->BU,take_add_one->BY,reverse_cons->BZ,append_assoc->Ci,getD_eq_getElem?_getD->Co,drop_zero->Cr,mem_append_left->Ct,lookup_cons->CA,filter_append->CI,take_sublist->CQ,nodup_append->CS,mem_of_mem_drop->CU,getElem?_take_of_lt->CY,all_eq_true->Da,getElem_mem->Dc,mem_flatMap->Dg,filterMap_cons->Dh,map_congr_left->Di,length_reverse->Dj,mem_filter->Dm,length_zip->Dr,zip_cons_cons->Ds,map_id->Dv,range->DF,lookup->DN,forIn_cons->DR,drop_eq_getElem_cons->DS,forIn_nil->Ed,getElem?_cons_succ->Ef,any_cons->Ep,filter_cons->Et,take_append_drop->Ey,of_mem_zip->E6,length_nil->EA,flatMap_append->EG,getElem_of_mem->EH,mem_range->EO,getElem?_concat_length->Fb,getElem?_append_right->Fe,length_eraseIdx_of_lt->Fh,length_range->Fo,getElem?_append_left->Fp,getElem?_zip_eq_some->Fw,any_eq_true->FB,zipIdx_cons->FJ,filter_cons_of_pos->FP,filter_cons_of_neg->FQ,pairwise_singleton->FR,zipIdx_nil->FW,getElem?_set_self->FX,drop_of_length_le->Gn,nodup_nil->Gs,singleton_append->Gw,perm_append_comm->He,getElem?_set_ne->Hf,getElem?_of_mem->Hl,dropLast_concat->Ho,filterMap_map->HF,ext_getElem?->Ib,getElem?_inj->Ii,flatMap_cons->Il,cons_ne_nil->ID,filter_nil->IL,filter_map->IM,all_cons->IU,map_take->IX,map_nil->Ja,length->Ji
open Nat renaming le_refl->Aj,ne_of_lt->Aw,le_trans->A0,zero_le->A8,lt_of_lt_of_le->AB,lt_of_le_of_lt->AL,lt_irrefl->AZ,le_add_right->Bu,le_of_lt->Bw,ne_of_gt->BD,add_le_add_left->Ca,lt_succ_self->Ce,lt_succ_of_lt->Cy,le_succ->Du,sub_zero->DX,mod_lt->E8,min_eq_left->EB,lt_or_ge->EC,le_of_not_lt->Fy,add_le_add_right->Hk,le_of_eq->HB,min_self->HN,add_sub_cancel->HP,min_eq_right->Iy,succ_le_succ->IB,mod_eq_of_lt->IE
open Bool renaming false_ne_true->Am,false_eq_true->Bo,and_eq_true->BR,eq_iff_iff->Cj,false_and->EI,not_eq_false'->HQ,not_eq_true'->Ik,or_false->IT,true_and->IY
open PySem.Paired renaming length->Ax,snoc->Jj
open Option.some renaming inj->Ay
open PySem.PassesOwn renaming never->AM
open PySem.Builtin.SmallTypes renaming ownedTupleIsFree->AN,nextOf->AY,ownedTupleHandOut->Cf
open Option renaming map_eq_some_iff->AR,getD_some->FA,isSome_map->Ic,getD_none->Iq,elim->Jk
open PySem.F renaming plainAttrs_list->AW,slot_list_append->BA,type_list_append->BB,slot_zip_next->Cb,plain_max_loop->CB,slot_dict_get->CN,slot_tuple_iterator_next->CP,slot_list_extend->De,type_list_extend->Df,args_zip_next_1->DA,entry_zip_next->DL,args_tuple_add_2->DU,entry_tuple_add->Ee,plainAttrs_dict->Eg,slot_dict_keyiterator_next->Ej,slot_tuple_add->Em,entry_dict_get->En,args_tuple_iterator_next_1->EU,entry_tuple_iterator_next->EZ,plain_extend_loop->Ft,slot_dict_getitem->Fu,entry_max_loop->FL,plain_list_iadd->FM,args_dict_get_3->FO,slot_dict_iter->Gf,plainAttrs_str->Gi,slot_str_index->Gj,type_str_index->Gk,plain_set_new->Gu,slot_set_iter->Gx,type_dict_get->Gy,slot_dict_pop->Gz,slot_list_pop->Hb,type_list_pop->Hc,kt_typeCall_dict_1->Hm,args_object_init_3->Hn,args_dict_init_2->HL,entry_dict_init->Ij,kt_called_dict->Iv,typeCall_zip_2->IA,newCall_zip_2->IP,entry_zip_new->IQ
open Array renaming length_toList->Ba,getElem?_toList->BK,eq_empty_of_size_eq_zero->E9,getElem?_eq_getElem->Fv,find?_toList->HA,forIn_toList->HR,toList_push->HX,toList->IZ
open List.Nodup renaming length_le_of_subset->Bg
open PySem.Around renaming under_plainId->Bn,under->HC
open PySem.Str renaming ofString->Bq,length->Fq,cps_append->GY,empty->IS
open Ne renaming symm->Br
open PyProof.Rows renaming callWith_type1->Bs,slot_tuple_getitem->BC,boot_list->BF,boot_dict->BW,boot_isinstance->CC,boot_tuple->Dl,sortedS->DK,boot_sorted->Ea,boot_set->GG,boot_int->GZ
open Int renaming emod_nonneg->Bz,emod_lt_of_pos->BE,toNat_natCast->BI,toNat->Dq,ne_of_gt->DE,fdiv_eq_ediv_of_nonneg->Fd,le_trans->HS,zero_add->Jc
open PySem.Value renaming isStrOf->BV,isStrOf_shape->Hs,isInt->Je
open PySem.Builtin.Range renaming rangeSize->Cg,rangeFitsLong->EY,small->Ht
open False renaming elim->Cm
open PySem.Heap.SameBut renaming update->Cz,refl->HW
open PySem.SetTable renaming grown->C0,below->EL
open PySem.Calls renaming callWith_builtin->CD,spliced_cons->Dn,evalArgs_plain->DG,spliced_nil->Ei,Name_function_global->Fc
open PyProof.Rows.F renaming plain_set_update_loop->CH,entry_set_update_loop->DW
open PySem.Obj renaming data_mapFields->CJ,isFreed_of_fields->DD,mapSeq->Eb,cls_mapFields->Ek,putSet->E7,mapFields->Fi
open PySem.Builtin.Slice renaming slicePlaces->CT,sliceAdjust->DO,sliceApplied->Ff
open PySem.Builtin.Tuple renaming tupleExact->CZ,tupleItemsOf->Fg
open PySem.Builtin.Dict renaming updateFrom->Dk,selfAndRest->FI,pairItems->Gg,showsAll->G0
open Sum.inr renaming inj->Dt
open PySem.SeqAt.EqAt renaming same->DP,int_str->Hw,str_int->Hx,int_int->HH,str_str->HI
open PySem.Builtin.List renaming listTooLong->DV,listExtendWith->EX,listSameRef->FG
open List.cons renaming inj->Es
open List.Perm renaming refl->EK
open PySem.Builtin renaming divisionGoesByPylong->ES
open PySem.Manifest renaming find?->ET
open PySem.Builtin.Frozenset renaming sizeOf->FE
open PySem.Shared renaming heap->Gh,TypeIs->Hr
open PySem.PyData renaming canLay0->GQ,depth->Jd
open PySem.SeqAt renaming eqv_refl->GV,EqAt->Hi,eqAt_reads->IC
open PySem.Code renaming isFrame->HD,frames->Jh
open PySem.pickOrder renaming go->HK
open PySem.SetTable.below renaming go->HZ
open PySem.Walks renaming list->IJ,range->Jf
open Iff renaming rfl->IR
open PySem.Txt renaming find->Jb
open PySem.IsRange renaming new->Jg
namespace L2
open PySem PySem.Spec PyProof.Rows
abbrev Key:=Sum Int Str
noncomputable def ng:Key->Value->Bool
 | .inl k,v=>Je k v
 | .inr x,v=>BV x v
noncomputable def keyH (w:World):Key->Int
 | .inl k=>hashInt k
 | .inr x=>hashStr w x
theorem c6:∀{k:Key}{v:Value},ng k v=true->(∃i t,k=Sum.inl i/\v=Value.int i t)\/(∃x t,k=Sum.inr x/\v=Value.str x t)
 | .inl i,v,h=>by
   obtain⟨t,e⟩:=Value.isInt_shape (k:=i) (v:=v) h
   exact .inl ⟨i,t,rfl,e⟩
 | .inr x,v,h=>by
   obtain⟨t,e⟩:=Hs (x:=x) (v:=v) h
   exact .inr ⟨x,t,rfl,e⟩
theorem a4c (i:Int) (t:Tok):ng (.inl i) (.int i t)=true:=by simp[ng,Je]
theorem a3j (x:Str) (t:Tok):ng (.inr x) (.str x t)=true:=by simp[ng,BV]
theorem aaj (a b:Int):decide ((Sum.inl a:Key)=Sum.inl b)=(a == b):=by
 by_cases e:a=b
 . subst e;simp
 . have h:¬ (Sum.inl a:Key)=Sum.inl b:=fun q=>e (Sum.inl.inj q)
   rw[decide_eq_false h]
   exact (beq_eq_false_iff_ne.mpr e).symm
theorem a9f (a b:Str):decide ((Sum.inr a:Key)=Sum.inr b)=decide (a=b):=by
 by_cases e:a=b
 . subst e;simp
 . have h:¬ (Sum.inr a:Key)=Sum.inr b:=fun q=>e (Dt q)
   rw[decide_eq_false h,decide_eq_false e]
theorem aab (a:Int) (b:Str):decide ((Sum.inl a:Key)=Sum.inr b)=false:=decide_eq_false (fun q=>nomatch q)
theorem a9n (a:Str) (b:Int):decide ((Sum.inr a:Key)=Sum.inl b)=false:=decide_eq_false (fun q=>nomatch q)
noncomputable def bz (prog:Program) (w:World):PySem.KeyKind prog w Key where
 is:=ng
 hash:=keyH w
 inj:=fun v a b ha hb=>by
   rcases c6 ha with⟨i,t,rfl,rfl⟩|⟨x,t,rfl,rfl⟩
   . rcases c6 hb with⟨j,u,rfl,e⟩|⟨y,u,rfl,e⟩
     . injection e with e1 _;rw[e1]
     . exact nomatch e
   . rcases c6 hb with⟨j,u,rfl,e⟩|⟨y,u,rfl,e⟩
     . exact nomatch e
     . injection e with e1 _;rw[e1]
 byValue:=fun k v h=>by
   rcases c6 h with⟨i,t,rfl,rfl⟩|⟨x,t,rfl,rfl⟩<;>rfl
 pyHash:=fun hv h=>by
   rcases c6 hv with⟨i,t,rfl,rfl⟩|⟨x,t,rfl,rfl⟩
   . exact wpAny_pyHash_int h
   . exact wpAny_pyHash_str h
 eqBool:=fun hu hv h=>by
   rcases c6 hu with⟨i,t,rfl,rfl⟩|⟨x,t,rfl,rfl⟩
   . rcases c6 hv with⟨j,u,rfl,rfl⟩|⟨y,u,rfl,rfl⟩
     . rw[aaj] at h;exact wpAny_eqBool_int h
     . rw[aab] at h;exact Hw i t y u _ _ _ _ h
   . rcases c6 hv with⟨j,u,rfl,rfl⟩|⟨y,u,rfl,rfl⟩
     . rw[a9n] at h;exact Hx x t j u _ _ _ _ h
     . rw[a9f] at h;exact wpAny_eqBool_str h
 «strs» := fun k x t v h=>by
   rcases c6 h with⟨i,u,rfl,e⟩|⟨y,u,rfl,e⟩
   . exact nomatch e
   . injection e with e1 _
     subst e1
     cases v<;>rfl
theorem y0 (prog:Program) (w:World) (i:Int) (t:Tok):(bz prog w).is (.inl i) (.int i t)=true:=a4c i t
theorem yg (prog:Program) (w:World) (x:Str) (t:Tok):(bz prog w).is (.inr x) (.str x t)=true:=a3j x t
inductive V where
 | non|bl (b:Bool)|int (i:Int)|str (x:Str)|byt (b:Array UInt8)|flt (b:UInt64)|ref (a:Addr)|ty (n:String)
 deriving DecidableEq
noncomputable def RelV:V->Value->Prop
 | .non,u=>u=Value.none
 | .bl b,u=>u=Value.bool b
 | .int i,u=>∃t,u=Value.int i t
 | .str x,u=>∃t,u=Value.str x t
 | .byt b,u=>∃t,u=Value.bytes b t
 | .flt b,u=>∃t,u=Value.float b t
 | .ref a,u=>u=Value.ref a
 | .ty n,u=>u=Value.type n
abbrev Vals:List V->List Value->Prop:=Paired RelV
theorem Vals.length {xs:List V}{us:List Value}(r:Vals xs us):xs.length=us.length:=Ax r
theorem Vals.get:∀{xs:List V}{us:List Value}{i:Nat}{x:V},Vals xs us->xs[i]? = some x->∃u,us[i]? = some u/\RelV x u
 | _,_,_,_,.nil,e=>by simp at e
 | _,_,0,_,.cons r _,e=>by simp at e;subst e;exact⟨_,rfl,r⟩
 | _,_,i+1,x,.cons _ t,e=>by
   obtain⟨u,h1,h2⟩:=Vals.get (i:=i) (x:=x) t (by simpa using e)
   exact⟨u,by simpa using h1,h2⟩
theorem Vals.set {x:V}{u:Value}(r:RelV x u):∀{xs:List V}{us:List Value}(i:Nat),Vals xs us->Vals (xs.set i x) (us.set i u)
 | _,_,_,.nil=>.nil
 | _,_,0,.cons _ t=>.cons r t
 | _,_,i+1,.cons q t=>.cons q (Vals.set r i t)
theorem Vals.append:∀{xs ys:List V}{us ws:List Value},Vals xs us->Vals ys ws->Vals (xs++ys) (us++ws)
 | _,_,_,_,.nil,s=>s
 | _,_,_,_,.cons r t,s=>.cons r (Vals.append t s)
theorem Vals.take:∀{xs:List V}{us:List Value}(n:Nat),Vals xs us->Vals (xs.take n) (us.take n)
 | _,_,0,_=>.nil
 | _,_,_+1,.nil=>.nil
 | _,_,n+1,.cons r t=>.cons r (Vals.take n t)
theorem Vals.drop:∀{xs:List V}{us:List Value}(n:Nat),Vals xs us->Vals (xs.drop n) (us.drop n)
 | _,_,0,r=>r
 | _,_,_+1,.nil=>.nil
 | _,_,n+1,.cons _ t=>Vals.drop n t
noncomputable def RelO:Option V->Option Value->Prop
 | some v,some u=>RelV v u
 | none,none=>True
 | _,_=>False
noncomputable def KV {κ:Type}:List (κ×V)->List (κ×Value)->Prop:=Paired fun (p:κ×V) (q:κ×Value)=>p.1=q.1/\RelV p.2 q.2
noncomputable def kV:Key->V
 | .inl i=>.int i
 | .inr x=>.str x
inductive HO where
 /-- a list -/
 | lst (xs:List V)
 /-- a tuple (never changes) -/
 | tup (xs:List V)
 /-- a dict whose keys are ints and texts;one whose keys are tuples of ints and texts (the empty one is both) -/
 | dK (kvs:List (Key×V))|dT (kvs:List (List Key×V))
 /-- a set of ints: its members,its size -/
 | set (S:Int->Bool) (n:Nat)
 /-- an instance of the class at C,its dict at dx,its attributes -/
 | ins (C dx:Addr) (fs:List (Str×V))
 /-- the dict of the instance at x -/
 | own (x:Addr)
 /-- the dict of an exception -/
 | xd (fs:List (Str×V))
 /-- a bound method,f of x -/
 | met (f x:Addr)
 /-- a range object lo,lo+1,.. below hi -/
 | rng (lo hi:Int)
 /-- a thing that is known to the object (the script;a dict while a loop walks it): read,never written while it is so -/
 | frz (o:Obj) (u:HO)
 /-- a code object's table -/
 | tbl (ps:Array Value)
 /-- any other thing,by what is true of its one object (a def of one's own: SetO a S n:=HO.ext fun h=>..) -/
 | ext (φ:Heap->Prop)
abbrev Hp:=Addr->Option HO
noncomputable def upd (H:Hp) (a:Addr) (o:HO):Hp:=fun b=>if b=a then some o else H b
theorem aa {H:Hp}{a:Addr}{o:HO}:upd H a o a=some o:=by unfold upd;rw[if_pos rfl]
theorem ae {H:Hp}{a b:Addr}{o:HO}(h:b≠a):upd H a o b=H b:=by unfold upd;rw[if_neg h]
theorem aba {H:Hp}{a b:Addr}{o u:HO}(h:H a=some o) (h':H b=some u) (d:o≠u):a≠b:=by
 intro e;subst e;rw[h] at h';exact d (Ay h')
theorem aj {H:Hp}{a b:Addr}{o:HO}(h:H a=some o) (h':H b=none):a≠b:=by
 intro e;subst e;rw[h] at h';cases h'
section
variable (P:Program) (w:World)
noncomputable def ObjOk (H:Hp) (h:Heap) (a:Addr):HO->Prop
 | .lst xs=>xs.length<=sizeLine/\∃(its:List Value) (n:Nat),Vals xs its/\h.get? a=some { cls:=.type "list",data:=.seq its.toArray n }
 | .tup xs=>xs.length<=sizeLine/\∃its:List Value,Vals xs its/\IsTup h a its.toArray
 | .dK kvs=>kvs.length<=sizeLine/\(a == sysModules)=false/\∃vs,KV kvs vs/\h.DictOf (bz P w) a vs
 | .dT kvs=>kvs.length<=sizeLine/\(a == sysModules)=false/\∃xs:List (List Key×Addr×Value),
     Paired (fun (p:List Key×V) (q:List Key×Addr×Value)=>p.1=q.1/\H q.2.1=some (.tup (p.1.map kV))/\RelV p.2 q.2.2) kvs xs/\
     ∃o es ep,h.get? a=some o/\o.ExactDict/\o.data=.dict es ep/\es.toList=xs.map (entryOfKey (tupleKind (bz P w)))/\(xs.map (·.1)).Nodup
 | .set S n=>h.SetOf (intKind P w) a S n
 | .ins C dx fs=>H dx=some (.own a)/\fs.length<=1000/\dx≠a/\h.get? a=some (Cs C dx)/\
     ∃mA,h.Ns1 dx mA/\(∀f,RelO (fs.lookup f) (mA f))/\Hy mA (fs.map (·.1))
 | .own _=>∃o,h.get? a=some o
 | .xd fs=>∃mA,h.Ns1 a mA/\∀f,RelO (fs.lookup f) (mA f)
 | .rng lo hi=>∃t u v,h.get? a=some { cls:=.type "range",data:=.fields #[.int lo t,.int hi u,.int 1 v] }
 | .frz o u=>h.get? a=some o/\ObjOk H h a u
 | .tbl ps=>h.get? a=some { cls:=.none,data:=.fields ps }
 | .met f x=>h.get? a=some (Fj (.ref f) (.ref x))
 | .ext φ=>φ h/\(∃o,h.get? a=some o)/\∀h1 h2:Heap,φ h1->(∀o,h1.get? a=some o->h2.get? a=some o)->φ h2
noncomputable def HOk (H:Hp) (h:Heap):Prop:=∀a o,H a=some o->ObjOk P w H h a o
end
section
variable {P:Program}{w:World}{H H':Hp}{h h':Heap}{a:Addr}{o:HO}
theorem ObjOk.lt (x:ObjOk P w H h a o):a<h.objs.size:=by
 cases o with
 | lst xs=>obtain⟨_,_,_,_,e⟩:=x;exact Ap e
 | tup xs=>obtain⟨_,_,_,p⟩:=x;exact p.lt
 | dK kvs=>obtain⟨_,_,_,_,o,_,_,e,_⟩:=x;exact Ap e
 | dT kvs=>obtain⟨_,_,_,_,o,_,_,e,_⟩:=x;exact Ap e
 | set S n=>obtain⟨o,_,_,_,e,_⟩:=x;exact Ap e
 | ins C dx fs=>obtain⟨_,_,_,e,_⟩:=x;exact Ap e
 | own y=>obtain⟨_,e⟩:=x;exact Ap e
 | xd fs=>obtain⟨_,⟨_,_,_,e,_⟩,_⟩:=x;exact Ap e
 | rng lo hi=>obtain⟨_,_,_,e⟩:=x;exact Ap e
 | frz ob u=>obtain⟨e,_⟩:=x;exact Ap e
 | tbl ps=>exact Ap (show h.get? a=some _ from x)
 | met f y=>exact Ap (show h.get? a=some _ from x)
 | ext φ=>obtain⟨_,⟨_,e⟩,_⟩:=x;exact Ap e
theorem Paired.mapP {α β:Type}{F G:α->β->Prop}:∀{l₁:List α}{l₂:List β},Paired F l₁ l₂->(∀a b,F a b->G a b)->Paired G l₁ l₂
 | _,_,.nil,_=>.nil
 | _,_,.cons r t,f=>.cons (f _ _ r) (Paired.mapP t f)
theorem ObjOk.stay (x:ObjOk P w H h a o) (k:∀b u,(b=a\/H b=some (.own a))->h.get? b=some u->h'.get? b=some u)
   (ho:∀b,H b=some (.own a)->H' b=some (.own a)) (ht:∀b xs,H b=some (.tup xs)->H' b=some (.tup xs)):ObjOk P w H' h' a o:=by
 induction o with
 | lst xs=>obtain⟨z,its,n,r,e⟩:=x;exact⟨z,its,n,r,k _ _ (.inl rfl) e⟩
 | tup xs=>obtain⟨z,its,r,ob,e,c⟩:=x;exact⟨z,its,r,ob,k _ _ (.inl rfl) e,c⟩
 | dK kvs=>obtain⟨z,y,vs,r,ob,es,ep,e,c⟩:=x;exact⟨z,y,vs,r,ob,es,ep,k _ _ (.inl rfl) e,c⟩
 | dT kvs =>
   obtain⟨z,y,xs,r,ob,es,ep,e,c⟩:=x
   exact⟨z,y,xs,Paired.mapP r fun p q z=>⟨z.1,ht _ _ z.2.1,z.2.2⟩,ob,es,ep,k _ _ (.inl rfl) e,c⟩
 | set S n=>obtain⟨ob,es,ep,t,e,c⟩:=x;exact⟨ob,es,ep,t,k _ _ (.inl rfl) e,c⟩
 | ins C dx fs =>
   obtain⟨d,z,ne,e,mA,⟨od,es,ep,e2,c⟩,r⟩:=x
   exact⟨ho _ d,z,ne,k _ _ (.inl rfl) e,mA,⟨od,es,ep,k _ _ (.inr d) e2,c⟩,r⟩
 | own y=>obtain⟨ob,e⟩:=x;exact⟨ob,k _ _ (.inl rfl) e⟩
 | xd fs=>obtain⟨mA,⟨od,es,ep,e,c⟩,r⟩:=x;exact⟨mA,⟨od,es,ep,k _ _ (.inl rfl) e,c⟩,r⟩
 | rng lo hi=>obtain⟨t,u,v,e⟩:=x;exact⟨t,u,v,k _ _ (.inl rfl) e⟩
 | frz ob u ih=>obtain⟨e,q⟩:=x;exact⟨k _ _ (.inl rfl) e,ih q⟩
 | tbl ps =>
   have e:h.get? a=some { cls:=.none,data:=.fields ps }:=x
   show h'.get? a=some { cls:=.none,data:=.fields ps }
   exact k a _ (.inl rfl) e
 | met f y =>
   have e:h.get? a=some (Fj (.ref f) (.ref y)):=x
   show h'.get? a=some (Fj (.ref f) (.ref y))
   exact k a _ (.inl rfl) e
 | ext φ=>obtain⟨p,⟨o,e⟩,st⟩:=x;exact⟨st _ _ p fun o q=>k _ _ (.inl rfl) q,⟨o,k _ _ (.inl rfl) e⟩,st⟩
theorem HOk.lt (x:HOk P w H h) (e:H a=some o):a<h.objs.size:=(x a o e).lt
theorem HOk.fresh (x:HOk P w H h) (e:h.objs.size<=a):H a=none:=by
 cases q:H a with
 | none=>rfl
 | some u=>exact absurd (AB (x.lt q) e) (AZ _)
theorem HOk.kept (x:HOk P w H h) (k:∀b u,h.get? b=some u->h'.get? b=some u):HOk P w H h':=fun a o e =>
 (x a o e).stay (fun b u _ q=>k b u q) (fun _ q=>q) fun _ _ q=>q
theorem HOk.laid (x:HOk P w H h) (k:∀b u,h.get? b=some u->h'.get? b=some u) (hp:h.objs.size<=a) (new:ObjOk P w (upd H a o) h' a o):HOk P w (upd H a o) h':=fun b u e=>by
 have hn:=x.fresh hp
 by_cases hb:b=a
 . subst hb;rw[aa] at e;cases e;exact new
 . rw[ae hb] at e
   exact (x b u e).stay (fun c v _ q=>k c v q) (fun c q=>by rw[ae (aj q hn)];exact q) fun c xs q=>by rw[ae (aj q hn)];exact q
end
noncomputable def Rd (H:Hp) (a:Addr) (u:HO):Prop:=H a=some u\/∃o,H a=some (.frz o u)
theorem Rd.ok {P:Program}{w:World}{H:Hp}{h:Heap}{a:Addr}{u:HO}(r:Rd H a u) (x:HOk P w H h):ObjOk P w H h a u:=by
 rcases r with r|⟨o,r⟩
 . exact x a u r
 . obtain⟨_,q⟩:=x a _ r
   exact q
noncomputable def Mut:Option HO->Prop
 | some (.lst _)=>True
 | some (.dK _)=>True
 | some (.dT _)=>True
 | some (.set _ _)=>True
 | some (.ins _ _ _)=>True
 | some (.ext _)=>True
 | _=>False
section
variable {P:Program}{w:World}{H:Hp}{h h':Heap}{x e:Addr}{o':HO}
theorem HOk.write (ok:HOk P w H h) (mu:Mut (H x)) (he:e=x\/H e=some (.own x)) (k:∀b u,b≠e->h.get? b=some u->h'.get? b=some u) (heo:∃u,h'.get? e=some u)
   (new:ObjOk P w (upd H x o') h' x o'):HOk P w (upd H x o') h':=fun b u q=>by
 have nown:∀c y,H c=some (.own y)->c≠x:=fun c y r z=>by subst z;rw[r] at mu;exact mu
 have ntup:∀c xs,H c=some (.tup xs)->c≠x:=fun c xs r z=>by subst z;rw[r] at mu;exact mu
 by_cases hb:b=x
 . subst hb;rw[aa] at q;cases q;exact new
 . rw[ae hb] at q
   by_cases hbe:b=e
   . have q':H b=some (.own x):=by
       rcases he with z|z
       . exact absurd (hbe.trans z) hb
       . rw[hbe];exact z
     rw[q] at q';cases q'
     obtain⟨v,hv⟩:=heo
     exact⟨v,by rw[hbe];exact hv⟩
   . refine (ok b u q).stay (fun c v hc r=>k c v ?_ r) (fun c r=>by rw[ae (nown c b r)];exact r) fun c xs r=>by rw[ae (ntup c xs r)];exact r
     rcases hc with rfl|hc
     . exact hbe
     . rintro rfl
       rcases he with z|z
       . exact nown c b hc z
       . rw[hc] at z;cases z;exact hb rfl
end
structure Un (fs ex:List Addr) (H H':Hp) (h h':Heap):Prop where
 keep:∀b o,h.get? b=some o->H b=none->b∉fs->b∉ex->h'.get? b=some o
 slot:∀b o,h.get? b=some o->H b=none->b∈fs->b∉ex->∃sl,h'.get? b=some { o with slots:=sl }
 free:∀b o,h.get? b=some o->H b=none->b∉ex->H' b=none
 there:∀b o,h.get? b=some o->b∉ex->∃o',h'.get? b=some o'
 tups:∀b xs,H b=some (.tup xs)->H' b=some (.tup xs)
 frzs:∀b o u,H b=some (.frz o u)->H' b=some (.frz o u)
 tbls:∀b ps,H b=some (.tbl ps)->∃more,H' b=some (.tbl (ps++more))
section
variable {fs fs' ex ex':List Addr}{H H1 H2:Hp}{h h1 h2 h':Heap}{a x e:Addr}{o:HO}
theorem Un.any (u:Un fs ex H H1 h h1) {b:Addr}{ob:Obj}(q:h.get? b=some ob) (n:H b=none) (hx:b∉ex):∃sl,h1.get? b=some { ob with slots:=sl }:=by
 by_cases hb:b∈fs
 . exact u.slot b ob q n hb hx
 . exact⟨ob.slots,u.keep b ob q n hb hx⟩
theorem Un.kept (k:∀b u,h.get? b=some u->h'.get? b=some u):Un fs ex H H h h' :=
 ⟨fun b ob q _ _ _=>k b ob q,fun b ob q _ _ _=>⟨ob.slots,k b ob q⟩,fun _ _ _ n _=>n,fun b ob q _=>⟨ob,k b ob q⟩,fun _ _ q=>q,fun _ _ _ q=>q,fun _ ps q=>⟨#[],by rw[q];simp⟩⟩
theorem Un.refl:Un fs ex H H h h:=Un.kept fun _ _ q=>q
theorem Un.laid (k:∀b u,h.get? b=some u->h'.get? b=some u) (hp:h.objs.size<=a) (hn:H a=none):Un fs ex H (upd H a o) h h' where
 keep:=fun b u q _ _ _=>k b u q
 slot:=fun b u q _ _ _=>⟨u.slots,k b u q⟩
 free:=fun b u q n _=>by rw[ae (Aw (AB (Ap q) hp))];exact n
 there:=fun b u q _=>⟨u,k b u q⟩
 tups:=fun b xs q=>by rw[ae (aj q hn)];exact q
 frzs:=fun b u xs q=>by rw[ae (aj q hn)];exact q
 tbls:=fun b ps q=>⟨#[],by rw[ae (aj q hn),q];simp⟩
theorem Un.write (mu:Mut (H x)) (he:e=x\/H e=some (.own x)) (k:∀b u,b≠e->h.get? b=some u->h'.get? b=some u) (heo:∃u,h'.get? e=some u):Un fs ex H (upd H x o) h h':=by
 have hx:∀b,H b=none->b≠x:=fun b n z=>by subst z;rw[n] at mu;exact mu
 have hb:∀b,H b=none->b≠e:=fun b n z=>by
   subst z
   rcases he with r|r
   . exact hx b n r
   . rw[n] at r;cases r
 have hm:∀b u,H b=some u->¬ Mut (some u)->b≠x:=fun b u q nm z=>by subst z;rw[q] at mu;exact nm mu
 refine⟨fun b u q n _ _=>k b u (hb b n) q,fun b u q n _ _=>⟨u.slots,k b u (hb b n) q⟩,fun b u q n _=>by rw[ae (hx b n)];exact n,fun b u q _=>?_,
   fun b xs q=>by rw[ae (hm b _ q fun z=>z)];exact q,fun b u xs q=>by rw[ae (hm b _ q fun z=>z)];exact q,fun b ps q=>⟨#[],by rw[ae (hm b _ q fun z=>z),q];simp⟩⟩
 by_cases hbe:b=e
 . subst hbe;exact heo
 . exact⟨u,k b u hbe q⟩
end
noncomputable def trk (h:Heap) (H:Hp):List Addr:=(DF h.objs.size).filter fun a=>(H a).isSome
noncomputable def hidT (h:Heap) (H:Hp):Heap:=PySem.W.hideAll h (trk h H)
theorem a44 (h:Heap) (H:Hp):(hidT h H).objs.size=h.objs.size:=PySem.W.hideAll_size _ _
theorem a67 {h:Heap}{H:Hp}{b:Addr}{o:Obj}(e:h.get? b=some o) (n:H b=none):(hidT h H).get? b=some o :=
 PySem.W.hideAll_get _ e fun hm=>by
   have q:(H b).isSome=true:=(Dm.mp hm).2
   rw[n] at q;simp at q
theorem a80 {h:Heap}{H:Hp}{b:Addr}{o:Obj}(e:(hidT h H).get? b=some o):h.get? b=some o/\H b=none:=by
 have e':h.get? b=some o:=PySem.W.of_hideAll (trk h H) e
 refine⟨e',?_⟩
 cases q:H b with
 | none=>rfl
 | some x =>
   have hm:b∈trk h H:=List.mem_filter.mpr ⟨List.mem_range.mpr (Ap e'),by simp[q]⟩
   have z:(hidT h H).get? b=none:=PySem.W.hideAll_none (trk h H) hm
   rw[z] at e;cases e
noncomputable def a8i (g h:Heap) (L:Addr):List (Addr×Obj):=(DF h.objs.size).filterMap fun a=>if a=L\/(g.get? a).isSome=true then none else (h.get? a).map fun o=>(a,o)
noncomputable def rest (g h:Heap) (L d:Addr):List (Addr×Obj):=(a8i g h L).filter fun p=>decide (p.1≠d)
structure Mod (K:Ab) (mg:Str->Option Value) (base:Heap):Prop where
 kin:K.In base
 glob:base.Ns mainGlobals mg
 blt:∃mb,base.Ns builtinsNs mb/\∀x:Str,x ≠ "__name__" -> mb x=bootBuiltins x
 nolimit:base.NoLimit
structure Cx where
 prog:Program
 w:World
 K:Ab
 mg:Str->Option Value
 base:Heap
 A:Around
 N:List Str
 s₀:Shared
 H₀:Hp
 env:Env
 outer:List Env
 stack:List Env
 ex:List Addr
 fn:Str->Bool
 calm:Bool
 pn:List (Addr×Obj)
 xe:Value->Shared->Prop
noncomputable def frs (l:List Env):List Addr:=l.filterMap (·.frame)
noncomputable abbrev Cx.fs (X:Cx):List Addr:=frs X.outer
noncomputable def Vis (sc:Scope) (x:Str):Prop:=sc.names.lookup x=some .local\/sc.names.lookup x=some .cell\/sc.names.lookup x=some .free
noncomputable def Loc (sc:Scope) (x:Str):Prop:=sc.names.lookup x=some .local\/sc.names.lookup x=some .cell
noncomputable def Look (env:Env) (h:Heap) (m:Str->Option Value) (x:Str) (u:Value):Prop :=
 (env.kindOf x=some .local/\m x=some u)\/((env.kindOf x=some .cell\/env.kindOf x=some .free)/\∃c,env.cells.lookup x=some c/\h.IsCell c (some u))
structure Cx.Ok (X:Cx):Prop where
 mod:Mod X.K X.mg X.base
 kind:X.env.scope.kind=.function
 glob:X.env.globals=mainGlobals
 blt:X.env.builtins=builtinsNs
 above:X.s₀.heap.objs.size<=X.env.locals
 inj:∀x y c,X.env.cells.lookup x=some c->X.env.cells.lookup y=some c->x=y
 has:∀x,(X.env.kindOf x=some .cell\/X.env.kindOf x=some .free)->∃c,X.env.cells.lookup x=some c
 cab:∀x c,X.fn x=true->X.env.cells.lookup x=some c->X.s₀.heap.objs.size<=c
 hd:X.calm=true->X.A.handled=none
 frames:X.A.frames=some X.stack
 stk:X.stack=X.outer\/(X.stack=X.env::X.outer/\X.env.frame=some X.env.locals)
 exf:∀b∈X.ex,b≠X.env.locals/\∀x c,X.env.cells.lookup x=some c->c≠b
 bs:∀b o,X.base.get? b=some o->X.s₀.heap.get? b=some o/\X.H₀ b=none
 bsz:X.base.objs.size<=X.s₀.heap.objs.size
 noex:∀b o,X.base.get? b=some o->b∉X.ex
 exfs:∀b∈X.ex,b∉X.fs
 funs:X.s₀.heap.FunFrames X.base X.outer
 frf:∀b∈X.fs,X.H₀ b=none
structure Inv (X:Cx) (pins:List (Addr×Obj)) (σ:List (Option V)) (H:Hp) (s:Shared):Prop where
 ok:X.Ok
 os:s.os=X.s₀.os
 bare:AllBare s.gens
 base:Un X.fs X.ex X.H₀ H X.s₀.heap s.heap
 loc:∃m,s.heap.Ns X.env.locals m/\∀(i:Nat) (x:Str) (v:V),X.N[i]? = some x->σ[i]? = some (some v)->Vis X.env.scope x->∃u,RelV v u/\Look X.env s.heap m x u
 cell:∀x c,X.env.cells.lookup x=some c->∃v,s.heap.IsCell c v
 free:H X.env.locals=none
 freeC:∀x c,X.env.cells.lookup x=some c->H c=none
 pin:∀p∈X.pn++pins,s.heap.get? p.1=some p.2/\H p.1=none/\p.1≠X.env.locals/\p.1∉X.fs/\∀v,p.2.data≠.cell v
 hok:HOk X.prog X.w H s.heap
 len:σ.length=X.N.length
section
variable {X:Cx}{pins:List (Addr×Obj)}{σ:List (Option V)}{H H':Hp}{s:Shared}{h':Heap}
theorem Cx.Ok.nofr (ok:X.Ok) {b:Addr}{o:Obj}(e:X.base.get? b=some o):b∉X.fs:=fun hb=>by
 have:=(ok.funs.mem hb).1
 rw[e] at this;cases this
theorem Inv.bs (I:Inv X pins σ H s):∀b o,X.base.get? b=some o->s.heap.get? b=some o/\H b=none:=fun b o e =>
 ⟨I.base.keep b o (I.ok.bs b o e).1 (I.ok.bs b o e).2 (I.ok.nofr e) (I.ok.noex b o e),I.base.free b o (I.ok.bs b o e).1 (I.ok.bs b o e).2 (I.ok.noex b o e)⟩
theorem Inv.bk (I:Inv X pins σ H s):∀b o,X.base.get? b=some o->s.heap.get? b=some o:=fun b o e=>(I.bs b o e).1
theorem Inv.mod (I:Inv X pins σ H s):Mod X.K X.mg X.base:=I.ok.mod
theorem Inv.kIn (I:Inv X pins σ H s):X.K.In s.heap:=I.ok.mod.kin.keeps I.bk
theorem Inv.lt (I:Inv X pins σ H s):X.env.locals<s.heap.objs.size:=let ⟨_,hn,_⟩:=I.loc;hn.lt
theorem Inv.sz (I:Inv X pins σ H s):X.s₀.heap.objs.size<=s.heap.objs.size:=A0 I.ok.above (Bw I.lt)
theorem Inv.nofs (I:Inv X pins σ H s) {a:Addr}(h:s.heap.objs.size<=a):a∉X.fs:=fun hb=>by
 obtain⟨_,o,ho,_⟩:=I.ok.funs.mem hb
 exact absurd (AB (Ap ho) (A0 I.sz h)) (AZ _)
theorem Inv.cne (I:Inv X pins σ H s):∀x c,X.env.cells.lookup x=some c->c≠X.env.locals:=fun x c e z=>by
 obtain⟨v,o,ho,hd⟩:=I.cell x c e
 obtain⟨m,⟨o',es,ep,ho',hd',_⟩,_⟩:=I.loc
 rw[z,ho'] at ho;cases ho;rw[hd'] at hd;cases hd
theorem Inv.funs (I:Inv X pins σ H s):s.heap.FunFrames X.base X.outer:=by
 have all:∀(l:List Env),(∀b∈frs l,b∈X.fs)->X.s₀.heap.FunFrames X.base l->s.heap.FunFrames X.base l:=by
   intro l
   induction l with
   | nil=>intro _ _;trivial
   | cons env r ih =>
     intro hs hl
     obtain⟨hk,⟨L,o,hf,hn,ho,hd⟩,hr⟩:=hl
     have hL:L∈X.fs:=hs L (by unfold frs;rw[Dh,hf];exact Ah)
     obtain⟨sl,e⟩:=I.base.slot L o ho (I.ok.frf L hL) hL fun z=>I.ok.exfs L z hL
     exact⟨hk,⟨L,_,hf,hn,e,hd⟩,ih (fun b hb=>hs b (by unfold frs;rw[Dh,hf];exact An _ hb)) hr⟩
 exact all X.outer (fun _ hb=>hb) I.ok.funs
theorem Inv.stack (I:Inv X pins σ H s):s.heap.FunFrames X.base X.stack:=by
 rcases I.ok.stk with e|⟨e,hf⟩
 . rw[e];exact I.funs
 . rw[e]
   obtain⟨m,hn,_⟩:=I.loc
   refine .cons (by rw[I.ok.kind];decide) hf hn ?_ I.funs
   exact Ez (A0 I.ok.bsz I.ok.above)
theorem Inv.stkSub (I:Inv X pins σ H s):∀b∈frs X.stack,b∈X.env.locals::X.fs:=fun b hb=>by
 rcases I.ok.stk with e|⟨e,hf⟩
 . rw[e] at hb;exact An _ hb
 . rw[e] at hb
   unfold frs at hb
   rw[Dh,hf] at hb
   exact hb
theorem Inv.stkFree (I:Inv X pins σ H s):∀b∈frs X.stack,H b=none:=fun b hb=>by
 rcases Aq.mp (I.stkSub b hb) with e|hb
 . rw[e];exact I.free
 . obtain⟨_,o,ho,_⟩:=I.ok.funs.mem hb
   exact I.base.free b o ho (I.ok.frf b hb) fun z=>I.ok.exfs b z hb
theorem Inv.step {g':Array GenState}{t':Nat}{d':Drawn}{ch:List Addr}(I:Inv X pins σ H s)
   (hch:∀b∈ch,(b∈X.ex\/X.s₀.heap.objs.size<=b)/\b≠X.env.locals/\(∀x c,X.env.cells.lookup x=some c->c≠b)/\∀p∈X.pn++pins,p.1≠b)
   (keep:∀b o,b≠X.env.locals->b∉X.fs->b∉ch->s.heap.get? b=some o->H b=none->h'.get? b=some o)
   (slot:∀b o,b≠X.env.locals->b∈X.fs->b∉ch->s.heap.get? b=some o->H b=none->∃sl,h'.get? b=some { o with slots:=sl }) (free:∀b o,b∉ch->s.heap.get? b=some o->H b=none->H' b=none)
   (there:∀b o,b∉ch->s.heap.get? b=some o->∃o',h'.get? b=some o')
   (tups:∀b xs,H b=some (.tup xs)->H' b=some (.tup xs)) (frzs:∀b o u,H b=some (.frz o u)->H' b=some (.frz o u)) (tbls:∀b ps,H b=some (.tbl ps)->∃more,H' b=some (.tbl (ps++more)))
   (ns:∀m,s.heap.Ns X.env.locals m->h'.Ns X.env.locals m) (hok:HOk X.prog X.w H' h') (hg:AllBare g') :
   Inv X pins σ H' { s with heap:=h',gens:=g',drawn:=d',toks:=t' }:=by
 have neL:∀b o,X.s₀.heap.get? b=some o->b≠X.env.locals:=fun b o e=>Aw (AB (Ap e) I.ok.above)
 have neC:∀b o,X.s₀.heap.get? b=some o->b∉X.ex->b∉ch:=fun b o e hx hb=>by
   rcases (hch b hb).1 with z|z
   . exact hx z
   . exact absurd (AB (Ap e) z) (AZ _)
 have cellK:∀x c,X.env.cells.lookup x=some c->∀v,s.heap.IsCell c v->h'.IsCell c v:=fun x c e v ⟨o,ho,hd⟩=>by
   have nch:c∉ch:=fun z=>(hch c z).2.2.1 x c e rfl
   by_cases hc:c∈X.fs
   . obtain⟨sl,q⟩:=slot c o (I.cne x c e) hc nch ho (I.freeC x c e)
     exact⟨_,q,hd⟩
   . exact⟨o,keep c o (I.cne x c e) hc nch ho (I.freeC x c e),hd⟩
 refine⟨I.ok,I.os,hg,⟨fun b o e n hb hx=>?_,fun b o e n hb hx=>?_,fun b o e n hx=>?_,fun b o e hx=>?_,fun b xs e=>tups b xs (I.base.tups b xs e),fun b o xs e=>frzs b o xs (I.base.frzs b o xs e),fun b ps e=>?_⟩,?_,fun x c e=>?_,?_,fun x c e=>?_,fun p hp=>?_,hok,I.len⟩
 . exact keep b o (neL b o e) hb (neC b o e hx) (I.base.keep b o e n hb hx) (I.base.free b o e n hx)
 . obtain⟨sl,e1⟩:=I.base.slot b o e n hb hx
   obtain⟨sl',e2⟩:=slot b _ (neL b o e) hb (neC b o e hx) e1 (I.base.free b o e n hx)
   exact⟨sl',e2⟩
 . obtain⟨o',e1⟩:=I.base.there b o e hx
   exact free b o' (neC b o e hx) e1 (I.base.free b o e n hx)
 . obtain⟨o',e1⟩:=I.base.there b o e hx
   exact there b o' (neC b o e hx) e1
 . obtain⟨m1,e1⟩:=I.base.tbls b ps e
   obtain⟨m2,e2⟩:=tbls b _ e1
   exact⟨m1++m2,by rw[e2,Array.append_assoc]⟩
 . obtain⟨m,hn,hl⟩:=I.loc
   refine⟨m,ns m hn,fun i x v e1 e2 e3=>?_⟩
   obtain⟨u,r,l⟩:=hl i x v e1 e2 e3
   refine⟨u,r,?_⟩
   rcases l with l|⟨k,c,e,z⟩
   . exact .inl l
   . exact .inr ⟨k,c,e,cellK x c e _ z⟩
 . obtain⟨v,z⟩:=I.cell x c e
   exact⟨v,cellK x c e v z⟩
 . obtain⟨m,⟨o,_,_,ho,_⟩,_⟩:=I.loc
   exact free _ o (fun z=>(hch _ z).2.1 rfl) ho I.free
 . obtain⟨v,o,ho,hd⟩:=I.cell x c e
   exact free c o (fun z=>(hch c z).2.2.1 x c e rfl) ho (I.freeC x c e)
 . obtain⟨e,n,ne,nf,d⟩:=I.pin p hp
   have nch:p.1∉ch:=fun z=>(hch p.1 z).2.2.2 p hp rfl
   exact⟨keep p.1 p.2 ne nf nch e n,free p.1 p.2 nch e n,ne,nf,d⟩
theorem Inv.un {t':Nat}(I:Inv X pins σ H s) (u:Un X.fs [] H H' s.heap h') (hok:HOk X.prog X.w H' h'):Inv X pins σ H' { s with heap:=h',toks:=t' }:=by
 obtain⟨m,⟨o,es,ep,ho,r⟩,_⟩:=id I.loc
 obtain⟨sl,hL⟩:=u.any ho I.free (by simp)
 exact I.step (g':=s.gens) (d':=s.drawn) (ch:=[]) (fun _ z=>nomatch z) (fun b o _ hb _ e n=>u.keep b o e n hb (by simp)) (fun b o _ hb _ e n=>u.slot b o e n hb (by simp)) (fun b o _ e n=>u.free b o e n (by simp)) (fun b o _ e=>u.there b o e (by simp)) u.tups u.frzs u.tbls (fun m' hm=>by
   obtain⟨o',es',ep',ho',r'⟩:=hm
   rw[ho] at ho';cases ho'
   exact⟨_,es',ep',hL,r'⟩) hok I.bare
theorem Inv.call {g':Array GenState}{t':Nat}{d':Drawn}{ch:List Addr}(I:Inv X pins σ H s) (u:Un (frs X.stack) ch H H' s.heap h') (hok:HOk X.prog X.w H' h') (hg:AllBare g')
   (hch:∀b∈ch,(b∈X.ex\/X.s₀.heap.objs.size<=b)/\b≠X.env.locals/\(∀x c,X.env.cells.lookup x=some c->c≠b)/\∀p∈X.pn++pins,p.1≠b) :
   Inv X pins σ H' { s with heap:=h',gens:=g',drawn:=d',toks:=t' }:=by
 obtain⟨m,⟨o,es,ep,ho,r⟩,_⟩:=id I.loc
 obtain⟨sl,hL⟩:=u.any ho I.free fun z=>(hch _ z).2.1 rfl
 exact I.step (ch:=ch) hch (fun b o hL hb hc e n=>u.keep b o e n (fun z=>(Aq.mp (I.stkSub b z)).elim hL hb) hc) (fun b o _ _ hc e n=>u.any e n hc) (fun b o hc e n=>u.free b o e n hc) (fun b o hc e=>u.there b o e hc) u.tups u.frzs u.tbls (fun m' hm=>by
   obtain⟨o',es',ep',ho',r'⟩:=hm
   rw[ho] at ho';cases ho'
   exact⟨_,es',ep',hL,r'⟩) hok hg
theorem Inv.turned {t':Nat}{it:Addr}(I:Inv X pins σ H s) (k:∀b o,b≠it->s.heap.get? b=some o->h'.get? b=some o) (hn:H it=none) (hL:it≠X.env.locals)
   (h1:it∈X.ex\/X.s₀.heap.objs.size<=it) (h2:∀x c,X.env.cells.lookup x=some c->c≠it) (h3:∀p∈X.pn++pins,p.1≠it):Inv X pins σ H { s with heap:=h',toks:=t' }:=by
 have nit:∀b u,H b=some u->b≠it:=fun b u e z=>by rw[z,hn] at e;cases e
 refine I.step (g':=s.gens) (d':=s.drawn) (ch:=[it]) (fun b hb=>?_) (fun b o _ _ hc e _=>k b o (fun z=>hc (by simp[z])) e) (fun b o _ _ hc e _=>⟨o.slots,k b o (fun z=>hc (by simp[z])) e⟩) (fun _ _ _ _ n=>n)
   (fun b o hc e=>⟨o,k b o (fun z=>hc (by simp[z])) e⟩) (fun _ _ e=>e) (fun _ _ _ e=>e) (fun b ps e=>⟨#[],by rw[e];simp⟩) (fun m hm=>?_) (fun b u e=>?_) I.bare
 . have e:b=it:=by simpa using hb
   subst e
   exact⟨h1,hL,h2,h3⟩
 . obtain⟨o,es,ep,ho,r⟩:=hm
   exact⟨o,es,ep,k _ o (Br hL) ho,r⟩
 . refine (I.hok b u e).stay (fun c v hc q=>k c v ?_ q) (fun _ q=>q) fun _ _ q=>q
   rcases hc with z|z
   . rw[z];exact nit b u e
   . exact nit c _ z
theorem Inv.tok (I:Inv X pins σ H s) (t:Nat):Inv X pins σ H { s with toks:=t }:=I.un (h':=s.heap) (t':=t) Un.refl I.hok
theorem Inv.kept {t':Nat}(I:Inv X pins σ H s) (k:∀b u,s.heap.get? b=some u->h'.get? b=some u):Inv X pins σ H { s with heap:=h',toks:=t' }:=I.un (Un.kept k) (I.hok.kept k)
theorem Inv.laid {a:Addr}{o:HO}{t':Nat}(I:Inv X pins σ H s) (k:∀b u,s.heap.get? b=some u->h'.get? b=some u) (hp:s.heap.objs.size<=a) (new:ObjOk X.prog X.w (upd H a o) h' a o) :
   Inv X pins σ (upd H a o) { s with heap:=h',toks:=t' }:=I.un (Un.laid k hp (I.hok.fresh hp)) (I.hok.laid k hp new)
theorem Inv.write {x e:Addr}{o:HO}{t':Nat}(I:Inv X pins σ H s) (mu:Mut (H x)) (he:e=x\/H e=some (.own x)) (k:∀b u,b≠e->s.heap.get? b=some u->h'.get? b=some u) (heo:∃u,h'.get? e=some u)
   (new:ObjOk X.prog X.w (upd H x o) h' x o):Inv X pins σ (upd H x o) { s with heap:=h',toks:=t' }:=I.un (Un.write mu he k heo) (I.hok.write mu he k heo new)
theorem Inv.pins_of {pins':List (Addr×Obj)}(I:Inv X pins σ H s) (h:∀p∈pins',s.heap.get? p.1=some p.2/\H p.1=none/\p.1≠X.env.locals/\p.1∉X.fs/\∀v,p.2.data≠.cell v):Inv X pins' σ H s :=
 ⟨I.ok,I.os,I.bare,I.base,I.loc,I.cell,I.free,I.freeC,fun p hp=>(Al.mp hp).elim (fun z=>I.pin p (Ct _ z)) (h p),I.hok,I.len⟩
theorem v7 {N:List Str}(hN:N.Nodup) {i j:Nat}{x:Str}(a:N[i]? = some x) (b:N[j]? = some x):i=j:=by
 obtain⟨h1,e1⟩:=Ao.mp a
 obtain⟨h2,e2⟩:=Ao.mp b
 exact (List.getElem_inj hN).mp (e1.trans e2.symm)
theorem sw {M:Model}{A:Around}{E:Value->Shared->Prop}{i:Nat}{x:Str}{v:V}{u:Value}{Q:Unit->Shared->Prop}(I:Inv X pins σ H s) (hN:X.N.Nodup) (hi:X.N[i]? = some x) (hx:Loc X.env.scope x) (r:RelV v u)
   (h:∀s',Inv X pins (σ.set i (some v)) H s'->(∃a,Ck a s.heap s'.heap/\(a=X.env.locals\/X.env.cells.lookup x=some a))->Q () s') (hf:X.fn x=true\/X.env.scope.names.lookup x=some .local:=by first|exact .inl rfl|exact .inr rfl|assumption):wpAny M A (storeName X.env x u) Q E s:=by
 obtain⟨m,hn,hl⟩:=id I.loc
 have hcls:(X.env.scope.kind == .class || (X.env.scope.kind == .module && X.env.locals != X.env.globals))=false:=by rw[I.ok.kind];rfl
 have hiσ:i<σ.length:=by rw[I.len];exact (Ao.mp hi).1
 have cne:=I.cne
 have tracked:∀{a:Addr} {h':Heap},(∃o,s.heap.get? a=some o/\H a=none)->Ck a s.heap h'->HOk X.prog X.w H h':=fun {a h'} ha hs b ob e=>by
   obtain⟨_,_,hfree⟩:=ha
   refine (I.hok b ob e).stay (fun c w' hc q=>(hs.2 c ?_).trans q) (fun _ q=>q) fun _ _ q=>q
   rintro rfl
   rcases hc with rfl|hc
   . rw[hfree] at e;cases e
   . rw[hfree] at hc;cases hc
 rcases hx with hk|hk
 . refine wpAny_storeName_local hk hn (fun h' hn' hs=>?_) hcls
   obtain⟨oL,_,_,hoL,_⟩:=id hn
   refine h _ ⟨I.ok,I.os,I.bare,⟨fun b o e n hb hx=>?_,fun b o e n hb hx=>?_,I.base.free,fun b o e hx=>?_,I.base.tups,I.base.frzs,I.base.tbls⟩,⟨_,hn',fun j y v' e1 e2 e3=>?_⟩,fun y c e=>?_,I.free,I.freeC,fun p hp=>?_,tracked ⟨oL,hoL,I.free⟩ hs,by simpa using I.len⟩ ⟨_,hs,.inl rfl⟩
   . exact (hs.2 b (Aw (AB (Ap e) I.ok.above))).trans (I.base.keep b o e n hb hx)
   . obtain⟨sl,e1⟩:=I.base.slot b o e n hb hx
     exact⟨sl,(hs.2 b (Aw (AB (Ap e) I.ok.above))).trans e1⟩
   . obtain⟨o',e1⟩:=I.base.there b o e hx
     exact⟨o',(hs.2 b (Aw (AB (Ap e) I.ok.above))).trans e1⟩
   . by_cases hj:j=i
     . subst hj
       rw[hi] at e1;cases e1
       rw[FX hiσ] at e2
       cases e2
       exact⟨u,r,.inl ⟨hk,by simp⟩⟩
     . rw[Hf (Br hj)] at e2
       obtain⟨u',r',q⟩:=hl j y v' e1 e2 e3
       refine⟨u',r',?_⟩
       rcases q with⟨k,e⟩|⟨k,c,e,z⟩
       . refine .inl ⟨k,?_⟩
         have:y≠x:=fun e=>hj (v7 hN e1 (e ▸ hi))
         simp[this,e]
       . exact .inr ⟨k,c,e,z.sameBut hs (cne y c e)⟩
   . obtain⟨w',z⟩:=I.cell y c e
     exact⟨w',z.sameBut hs (cne y c e)⟩
   . obtain⟨e,n,ne,nf,d⟩:=I.pin p hp
     exact⟨(hs.2 p.1 ne).trans e,n,ne,nf,d⟩
 . have hfn:X.fn x=true:=by
     rcases hf with z|z
     . exact z
     . rw[z] at hk;cases hk
   obtain⟨c,hc⟩:=I.ok.has x (.inl hk)
   obtain⟨w',z⟩:=I.cell x c hc
   refine wpAny_storeName_cell I.ok.kind hk hc z (fun h' hc' hs=>?_)
   obtain⟨oc,hoc,hocd⟩:=id z
   refine h { s with heap:=h' } ⟨I.ok,I.os,I.bare,⟨fun b o e n hb hx=>?_,fun b o e n hb hx=>?_,I.base.free,fun b o e hx=>?_,I.base.tups,I.base.frzs,I.base.tbls⟩,⟨m,hn.sameBut hs (Br (cne x c hc)),fun j y v' e1 e2 e3=>?_⟩,fun y c' e=>?_,I.free,I.freeC,fun p hp=>?_,tracked ⟨oc,hoc,I.freeC x c hc⟩ hs,by simpa using I.len⟩ ⟨c,hs,.inr hc⟩
   . exact (hs.2 b (Aw (AB (Ap e) (I.ok.cab x c hfn hc)))).trans (I.base.keep b o e n hb hx)
   . obtain⟨sl,e1⟩:=I.base.slot b o e n hb hx
     exact⟨sl,(hs.2 b (Aw (AB (Ap e) (I.ok.cab x c hfn hc)))).trans e1⟩
   . obtain⟨o',e1⟩:=I.base.there b o e hx
     exact⟨o',(hs.2 b (Aw (AB (Ap e) (I.ok.cab x c hfn hc)))).trans e1⟩
   . by_cases hj:j=i
     . subst hj
       rw[hi] at e1;cases e1
       rw[FX hiσ] at e2
       cases e2
       exact⟨u,r,.inr ⟨.inl hk,c,hc,hc'⟩⟩
     . rw[Hf (Br hj)] at e2
       obtain⟨u',r',q⟩:=hl j y v' e1 e2 e3
       refine⟨u',r',?_⟩
       rcases q with q|⟨k,c',e,z'⟩
       . exact .inl q
       . refine .inr ⟨k,c',e,z'.sameBut hs ?_⟩
         rintro rfl
         exact hj (v7 hN e1 (I.ok.inj _ _ _ e hc ▸ hi))
   . by_cases hcc:c'=c
     . subst hcc;exact⟨_,hc'⟩
     . obtain⟨w2,z2⟩:=I.cell y c' e
       exact⟨w2,z2.sameBut hs hcc⟩
   . obtain⟨e,n,ne,nf,d⟩:=I.pin p hp
     refine⟨(hs.2 p.1 ?_).trans e,n,ne,nf,d⟩
     intro q
     rw[q,hoc] at e
     have q':oc=p.2:=Ay e
     exact d w' (by rw[<- q'];exact hocd)
theorem ou {M:Model}{A:Around}{E:Value->Shared->Prop}{i:Nat}{x:Str}{v:V}{u:Value}{Q:Unit->Shared->Prop}(I:Inv X pins σ H s) (hN:X.N.Nodup) (hi:X.N[i]? = some x) (hx:Loc X.env.scope x) (r:RelV v u)
   (h:∀s',Inv X pins (σ.set i (some v)) H s'->Q () s') (hf:X.fn x=true\/X.env.scope.names.lookup x=some .local:=by first|exact .inl rfl|exact .inr rfl|assumption):wpAny M A (storeName X.env x u) Q E s :=
 sw I hN hi hx r (fun s' I' _=>h s' I') hf
theorem Inv.call' {s':Shared}{ch:List Addr}(I:Inv X pins σ H s) (ho:s'.os=s.os) (u:Un (frs X.stack) ch H H' s.heap s'.heap) (hok:HOk X.prog X.w H' s'.heap) (hg:AllBare s'.gens)
   (hch:∀b∈ch,(b∈X.ex\/X.s₀.heap.objs.size<=b)/\b≠X.env.locals/\(∀x c,X.env.cells.lookup x=some c->c≠b)/\∀p∈X.pn++pins,p.1≠b):Inv X pins σ H' s':=by
 obtain⟨h',g',d',t',o'⟩:=s'
 have e:o'=s.os:=ho
 subst e
 exact I.call (g':=g') (t':=t') (d':=d') u hok hg hch
end
abbrev XK:=Value->Option Addr->Hp->Prop
abbrev St:=List (Option V)
abbrev VK:=V->Hp->Prop
abbrev TE:=St->Hp->VK->Prop
abbrev TT:=St->Hp->(Bool->Hp->Prop)->Prop
abbrev TA:=St->Hp->(List V->Hp->Prop)->Prop
structure Ends where
 nx:St->Hp->Prop
 rt:VK
 bk:St->Hp->Prop:=fun _ _=>False
 ct:St->Hp->Prop:=fun _ _=>False
abbrev TS:=Ends->St->Hp->Prop
noncomputable def EP (X:Cx) (pins:List (Addr×Obj)) (σ:St) (Q:VK) (u:Value) (s':Shared):Prop:=∃v H',Inv X pins σ H' s'/\RelV v u/\Q v H'
noncomputable def TP (X:Cx) (pins:List (Addr×Obj)) (σ:St) (Q:Bool->Hp->Prop) (b:Bool) (s':Shared):Prop:=∃H',Inv X pins σ H' s'/\Q b H'
noncomputable def AP (X:Cx) (pins:List (Addr×Obj)) (σ:St) (Q:List V->Hp->Prop) (us:List Value) (s':Shared):Prop:=∃vs H',Inv X pins σ H' s'/\Vals vs us/\Q vs H'
noncomputable def SP (X:Cx) (pins:List (Addr×Obj)) (D:Ends) (f:Flow) (s':Shared):Prop :=
 match f with
 | .next=>∃σ' H',Inv X pins σ' H' s'/\D.nx σ' H'
 | .brk=>∃σ' H',Inv X pins σ' H' s'/\D.bk σ' H'
 | .cont=>∃σ' H',Inv X pins σ' H' s'/\D.ct σ' H'
 | .ret u=>∃v σ' H',Inv X pins σ' H' s'/\RelV v u/\D.rt v H'
noncomputable def PE (X:Cx) (e:Expr) (t:TE):Prop :=
 ∀(pins:List (Addr×Obj)) (s:Shared) (σ:St) (H:Hp) (Q:VK),Inv X pins σ H s->t σ H Q->wpAny (model X.prog X.w) X.A (eval e X.env) (EP X pins σ Q) X.xe s
noncomputable def PT (X:Cx) (e:Expr) (t:TT):Prop :=
 ∀(pins:List (Addr×Obj)) (s:Shared) (σ:St) (H:Hp) (Q:Bool->Hp->Prop),Inv X pins σ H s->t σ H Q->wpAny (model X.prog X.w) X.A (isTrue e X.env (eval e X.env)) (TP X pins σ Q) X.xe s
noncomputable def PW (X:Cx) (e:Expr) (t:TT):Prop :=
 ∀(whole:Sem Value) (pins:List (Addr×Obj)) (s:Shared) (σ:St) (H:Hp) (Q:Bool->Hp->Prop),Inv X pins σ H s->t σ H Q->wpAny (model X.prog X.w) X.A (isTrue e X.env whole) (TP X pins σ Q) X.xe s
theorem PW.pt {X:Cx}{e:Expr}{t:TT}(h:PW X e t):PT X e t:=h _
noncomputable def PA (X:Cx) (es:List Expr) (t:TA):Prop :=
 ∀(pos:Pos) (pins:List (Addr×Obj)) (s:Shared) (σ:St) (H:Hp) (Q:List V->Hp->Prop),Inv X pins σ H s->t σ H Q->wpAny (model X.prog X.w) X.A (spliced (backTo pos (starEach es X.env))) (AP X pins σ Q) X.xe s
noncomputable def PS (X:Cx) (st:Stmt) (t:TS):Prop :=
 ∀(pins:List (Addr×Obj)) (s:Shared) (σ:St) (H:Hp) (D:Ends),Inv X pins σ H s->t D σ H->wpAny (model X.prog X.w) X.A (exec st X.env) (SP X pins D) X.xe s
noncomputable def PSs (X:Cx) (st:List Stmt) (t:TS):Prop :=
 ∀(pins:List (Addr×Obj)) (s:Shared) (σ:St) (H:Hp) (D:Ends),Inv X pins σ H s->t D σ H->wpAny (model X.prog X.w) X.A (execs st X.env) (SP X pins D) X.xe s
theorem thn {α:Type}{t:Sem α}{Q Q':α->Shared->Prop}{M:Model}{A:Around}{E:Value->Shared->Prop}{s:Shared}(h:wpAny M A t Q E s) (hQ:∀a s,Q a s->Q' a s):wpAny M A t Q' E s:=BH h hQ fun _ _ x=>x
section
variable {X:Cx}
noncomputable def tVar (i:Nat):TE:=fun σ H Q=>∃v,σ[i]? = some (some v)/\Q v H
noncomputable def tC (v:V):TE:=fun _ H Q=>Q v H
theorem a9j {i:Nat}{x:Str}{pos:Pos}(hN:X.N[i]? = some x) (hv:Vis X.env.scope x) (hd:(x == ("__debug__" : Str))=false:=by decide) (hcd:(x == ("__classdict__" : Str))=false:=by decide):PE X (.Name x pos) (tVar i):=by
 intro pins s σ H Q I h
 obtain⟨v,e,h⟩:=h
 obtain⟨m,hn,hl⟩:=I.loc
 obtain⟨u,r,l⟩:=hl i x v hN e hv
 have fin:EP X pins σ Q u s:=⟨v,H,I,r,h⟩
 rcases l with⟨hk,hm⟩|⟨hk,c,hc,hcell⟩
 . exact IF (wpAny_loadName_local I.ok.kind hk hn hm fin) hd
 . rcases hk with hk|hk
   . exact IF (wpAny_loadName_cell I.ok.kind hk hc hcell fin) hd
   . exact IF (wpAny_loadName_free I.ok.kind hk hc hcell fin hcd) hd
theorem jx {i j pos}:PE X (.Constant (.int i) j pos) (tC (.int i)):=fun _ _ _ H _ I h=>wpAny_Constant_int ⟨.int i,H,I.tok _,⟨_,rfl⟩,h⟩
theorem a6r {b j pos}:PE X (.Constant (.bool b) j pos) (tC (.bl b)):=fun _ _ _ H _ I h=>Constant_bool ⟨.bl b,H,I,rfl,h⟩
theorem a9g {j pos}:PE X (.Constant .none j pos) (tC .non):=fun _ _ _ H _ I h=>Constant_none ⟨.non,H,I,rfl,h⟩
theorem xh {x j pos}:PE X (.Constant (.str x) j pos) (tC (.str x)):=fun _ _ _ H _ I h=>Calls.Constant_str ⟨.str x,H,I.tok _,⟨_,rfl⟩,h⟩
noncomputable def Gl (X:Cx) (x:Str):Prop:=X.env.kindOf x=some .globalImplicit
theorem rk {E:Value->Shared->Prop}{pins:List (Addr×Obj)}{s:Shared}{σ:St}{H:Hp}{x:Str}{u:Value}{pos:Pos}{Q:Value->Shared->Prop}(I:Inv X pins σ H s) (hg:Gl X x) (hm:X.mg x=some u) (h:Q u s)
   (hd:(x == ("__debug__" : Str))=false:=by decide):wpAny (model X.prog X.w) X.A (eval (.Name x pos) X.env) Q E s :=
 Fc I.ok.kind hg (Calls.loadGlobal_global (by rw[I.ok.glob];exact I.mod.glob.keeps I.bk) hm h) hd
theorem fj {E:Value->Shared->Prop}{pins:List (Addr×Obj)}{s:Shared}{σ:St}{H:Hp}{x:Str}{u:Value}{pos:Pos}{Q:Value->Shared->Prop}(I:Inv X pins σ H s) (hg:Gl X x) (hm:X.mg x=none) (hv:bootBuiltins x=some u) (h:Q u s)
   (hn:x ≠ "__name__" := by decide) (hd:(x == ("__debug__" : Str))=false:=by decide):wpAny (model X.prog X.w) X.A (eval (.Name x pos) X.env) Q E s:=by
 obtain⟨mb,h1,h2⟩:=I.mod.blt
 exact Fc I.ok.kind hg (Calls.loadGlobal_builtin (by rw[I.ok.glob];exact I.mod.glob.keeps I.bk) hm (by rw[I.ok.blt];exact h1.keeps I.bk) ((h2 x hn).trans hv) h) hd
theorem a8l {x:Str}{v:V}{u:Value}{pos:Pos}(hg:Gl X x) (hm:X.mg x=some u) (r:RelV v u) (hd:(x == ("__debug__" : Str))=false:=by decide):PE X (.Name x pos) (tC v) :=
 fun _ _ _ H _ I h=>rk I hg hm ⟨v,H,I,r,h⟩ hd
theorem a98 {x:Str}{v:V}{u:Value}{pos:Pos}(hg:Gl X x) (hm:X.mg x=none) (hv:bootBuiltins x=some u) (r:RelV v u) (hn:x ≠ "__name__" := by decide) (hd:(x == ("__debug__" : Str))=false:=by decide):PE X (.Name x pos) (tC v) :=
 fun _ _ _ H _ I h=>fj I hg hm hv ⟨v,H,I,r,h⟩ hn hd
variable {a b:Expr}{ta tb:TE}{pos:Pos}
noncomputable def PC (X:Cx) (op:CmpOp) (a b:Expr) (t:TE):Prop :=
 ∀(pins:List (Addr×Obj)) (s:Shared) (σ:St) (H:Hp) (Q:VK),Inv X pins σ H s->t σ H Q->
   wpAny (model X.prog X.w) X.A (eval a X.env) (fun v s₁=>wpAny (model X.prog X.w) X.A (eval b X.env) (fun u s₂=>wpAny (model X.prog X.w) X.A (compareOp op v u) (EP X pins σ Q) X.xe s₂) X.xe s₁) X.xe s
noncomputable def tB (t:TE):TT:=fun σ H Q=>t σ H fun x H1=>∃c,x=.bl c/\Q c H1
theorem a9i {op:CmpOp}{t:TE}(h:PC X op a b t) (h1:behindInMarks op b=false:=by first|exact nobehind _ (by decide) (by decide)|rfl):PT X (.Compare a [op] [b] pos) (tB t):=by
 intro pins s σ H Q I hw
 refine Gp (thn (h pins s σ H _ I hw) fun v s1 h1=>thn h1 fun u s2 h2=>thn h2 fun c s3 ⟨x,H1,I1,r1,q1⟩=>?_) h1
 obtain⟨d,rfl,q⟩:=q1
 cases r1
 exact Cv ⟨H1,I1,q⟩
theorem aao {e:Expr}{t:TE}(h:PE X e t) (he:∀whole,isTrue e X.env whole=(do let v<-whole;standAt e.pos;holding [v] (truthy v)):=by intro _;rfl):PT X e (tB t):=by
 intro pins s σ H Q I hw
 refine isTrue_plain (thn (h pins s σ H _ I hw) fun v s1 ⟨x,H1,I1,r1,q1⟩=>?_) (he _)
 obtain⟨d,rfl,q⟩:=q1
 cases r1
 exact Cv ⟨H1,I1,q⟩
variable {tA tB':TT}{rest:List Expr}
noncomputable def tAnd (t u:TT):TT:=fun σ H Q=>t σ H fun c H1=>if c=true then u σ H1 Q else Q false H1
noncomputable def tOr (t u:TT):TT:=fun σ H Q=>t σ H fun c H1=>if c=true then Q true H1 else u σ H1 Q
noncomputable def tNot (t:TT):TT:=fun σ H Q=>t σ H fun c H1=>Q (!c) H1
theorem a8d (ha:PT X a tA):PW X (.BoolOp .And [a] pos) tA:=by
 intro wh pins s σ H Q I h
 refine isTrue_and (thn (ha pins s σ H Q I h) fun c s1 e=>?_)
 cases c with
 | true=>exact isTrue_and_nil e
 | false=>exact e
theorem a4p (ha:PT X a tA):PW X (.BoolOp .Or [a] pos) tA:=by
 intro wh pins s σ H Q I h
 refine isTrue_or (thn (ha pins s σ H Q I h) fun c s1 e=>?_)
 cases c with
 | false=>exact isTrue_or_nil e
 | true=>exact e
theorem aak (ha:PT X a tA) (hb:PW X (.BoolOp .And (b::rest) pos) tB'):PW X (.BoolOp .And (a::b::rest) pos) (tAnd tA tB'):=by
 intro wh pins s σ H Q I h
 refine isTrue_and (thn (ha pins s σ H _ I h) fun c s1 ⟨H1,I1,q1⟩=>?_)
 cases c with
 | true=>exact hb wh pins s1 σ H1 Q I1 q1
 | false=>exact⟨H1,I1,q1⟩
theorem a09 (ha:PT X a tA) (hb:PW X (.BoolOp .Or (b::rest) pos) tB'):PW X (.BoolOp .Or (a::b::rest) pos) (tOr tA tB'):=by
 intro wh pins s σ H Q I h
 refine isTrue_or (thn (ha pins s σ H _ I h) fun c s1 ⟨H1,I1,q1⟩=>?_)
 cases c with
 | true=>exact⟨H1,I1,q1⟩
 | false=>exact hb wh pins s1 σ H1 Q I1 q1
theorem a9w (ha:PT X a tA):PT X (.UnaryOp .Not a pos) (tNot tA):=by
 intro pins s σ H Q I h
 exact isTrue_not (ha pins s σ H (fun c H1=>Q (!c) H1) I h)
noncomputable def a7e (ta tb:TE):TE:=fun σ H Q=>ta σ H fun x H1=>∃c,x=.bl c/\if c=true then tb σ H1 Q else Q (.bl false) H1
noncomputable def tOrV (ta tb:TE):TE:=fun σ H Q=>ta σ H fun x H1=>∃c,x=.bl c/\if c=true then Q (.bl true) H1 else tb σ H1 Q
theorem xa {op} {t:TE}(h:PE X a t):PE X (.BoolOp op [a] pos) t:=fun pins s σ H Q I hw=>BoolOp_one (h pins s σ H Q I hw)
theorem a3u (ha:PE X a ta) (hb:PE X (.BoolOp .And (b::rest) pos) tb):PE X (.BoolOp .And (a::b::rest) pos) (a7e ta tb):=by
 intro pins s σ H Q I h
 refine BoolOp_and (thn (ha pins s σ H _ I h) fun v s1 ⟨x,H1,I1,r1,q1⟩=>?_)
 obtain⟨c,rfl,q1⟩:=q1
 cases r1
 refine Cv ?_
 cases c with
 | true=>exact hb pins s1 σ H1 Q I1 q1
 | false=>exact⟨.bl false,H1,I1,rfl,q1⟩
theorem ab5 (ha:PE X a ta) (hb:PE X (.BoolOp .Or (b::rest) pos) tb):PE X (.BoolOp .Or (a::b::rest) pos) (tOrV ta tb):=by
 intro pins s σ H Q I h
 refine BoolOp_or (thn (ha pins s σ H _ I h) fun v s1 ⟨x,H1,I1,r1,q1⟩=>?_)
 obtain⟨c,rfl,q1⟩:=q1
 cases r1
 refine Cv ?_
 cases c with
 | false=>exact hb pins s1 σ H1 Q I1 q1
 | true=>exact⟨.bl true,H1,I1,rfl,q1⟩
noncomputable def tIf (t:TT) (ta tb:TE):TE:=fun σ H Q=>t σ H fun c H1=>if c=true then ta σ H1 Q else tb σ H1 Q
theorem a6g {c:Expr}(hc:PT X c tA) (ha:PE X a ta) (hb:PE X b tb):PE X (.IfExp c a b pos) (tIf tA ta tb):=by
 intro pins s σ H Q I h
 refine wpAny_IfExp (thn (hc pins s σ H _ I h) fun d s1 ⟨H1,I1,q1⟩=>?_)
 cases d with
 | true=>exact ha pins s1 σ H1 Q I1 q1
 | false=>exact hb pins s1 σ H1 Q I1 q1
end
noncomputable def SqL (K:Ab) (H:Hp) (a:Addr) (xs:List V):Prop :=
 Rd H a (.lst xs)\/
   ∃(o:Obj) (its:Array Value) (n:Nat),K.lookup a=some o/\o.cls=.type "list" /\ o.dict=none/\o.data=.seq its n/\its.size<=sizeLine/\Vals xs its.toList
noncomputable def SqT (K:Ab) (H:Hp) (a:Addr) (xs:List V):Prop :=
 Rd H a (.tup xs)\/
   ∃(o:Obj) (its:Array Value) (n:Nat),K.lookup a=some o/\o.cls=.type "tuple" /\ o.data=.seq its n/\its.size<=sizeLine/\Vals xs its.toList
noncomputable def absV:Value->Option V
 | .none=>some .non
 | .bool b=>some (.bl b)
 | .int i _=>some (.int i)
 | .str x _=>some (.str x)
 | .bytes b _=>some (.byt b)
 | .float b _=>some (.flt b)
 | .ref a=>some (.ref a)
 | .type n=>some (.ty n)
 | _=>none
theorem RelV.abs {x:V}{u:Value}(r:RelV x u):absV u=some x:=by
 cases x with
 | non=>cases r;rfl
 | bl _=>cases r;rfl
 | int _=>obtain⟨t,rfl⟩:=r;rfl
 | str _=>obtain⟨t,rfl⟩:=r;rfl
 | byt _=>obtain⟨t,rfl⟩:=r;rfl
 | flt _=>obtain⟨t,rfl⟩:=r;rfl
 | ref _=>cases r;rfl
 | ty _=>cases r;rfl
theorem RelV.inj {x y:V}{u:Value}(r:RelV x u) (q:RelV y u):x=y:=Ay (r.abs.symm.trans q.abs)
theorem Vals.inj:∀{xs ys:List V}{us:List Value},Vals xs us->Vals ys us->xs=ys
 | _,_,_,.nil,.nil=>rfl
 | _,_,_,.cons r t,.cons r' t'=>by rw[r.inj r',Vals.inj t t']
section
variable {X:Cx}{pins:List (Addr×Obj)}{σ:St}{H:Hp}{s:Shared}{a:Addr}{xs ys:List V}
theorem SqL.of {K:Ab}(h:H a=some (.lst xs)):SqL K H a xs:=.inl (.inl h)
theorem SqT.of {K:Ab}(h:H a=some (.tup xs)):SqT K H a xs:=.inl (.inl h)
theorem Inv.list (I:Inv X pins σ H s) (h:SqL X.K H a xs):∃its:List Value,Vals xs its/\PlainL s.heap a its.toArray/\xs.length<=sizeLine:=by
 rcases h with h|⟨o,its,n,hk,hc,hd,hs,hz,r⟩
 . obtain⟨z,its,n,r,e⟩:=h.ok I.hok
   exact⟨its,r,⟨_,n,e,rfl,rfl,rfl⟩,z⟩
 . refine⟨its.toList,r,⟨o,n,I.kIn a o hk,hc,hd,by simpa using hs⟩,?_⟩
   have e:=r.length
   simp only[Ba] at e
   omega
theorem Inv.tuple (I:Inv X pins σ H s) (h:SqT X.K H a xs):∃its:List Value,Vals xs its/\IsTup s.heap a its.toArray/\xs.length<=sizeLine:=by
 rcases h with h|⟨o,its,n,hk,hc,hs,hz,r⟩
 . obtain⟨z,its,r,p⟩:=h.ok I.hok
   exact⟨its,r,p,z⟩
 . refine⟨its.toList,r,⟨o,I.kIn a o hk,hc,n,by simpa using hs⟩,?_⟩
   have e:=r.length
   simp only[Ba] at e
   omega
theorem Inv.list_inj (I:Inv X pins σ H s) (h:SqL X.K H a xs) (h':SqL X.K H a ys):xs=ys:=by
 obtain⟨its,r,⟨o,n,e,_,_,d⟩,_⟩:=I.list h
 obtain⟨its',r',⟨o',n',e',_,_,d'⟩,_⟩:=I.list h'
 rw[e] at e';cases e'
 rw[d] at d'
 injection d' with d1 _
 have:its=its':=by simpa using congrArg IZ d1
 subst this
 exact r.inj r'
theorem Inv.tuple_inj (I:Inv X pins σ H s) (h:SqT X.K H a xs) (h':SqT X.K H a ys):xs=ys:=by
 obtain⟨its,r,⟨o,e,_,n,d⟩,_⟩:=I.tuple h
 obtain⟨its',r',⟨o',e',_,n',d'⟩,_⟩:=I.tuple h'
 rw[e] at e';cases e'
 rw[d] at d'
 injection d' with d1 _
 have:its=its':=by simpa using congrArg IZ d1
 subst this
 exact r.inj r'
end
noncomputable abbrev Cx.wish (X:Cx) (E:Value->Shared->Prop):Cx:={ X with xe:=E }
noncomputable abbrev Cx.nox (X:Cx):Cx:=X.wish fun _ _=>False
theorem Cx.Ok.wish {X:Cx}(ok:X.Ok) (E:Value->Shared->Prop):(X.wish E).Ok :=
 ⟨ok.mod,ok.kind,ok.glob,ok.blt,ok.above,ok.inj,ok.has,ok.cab,ok.hd,ok.frames,ok.stk,ok.exf,ok.bs,ok.bsz,ok.noex,ok.exfs,ok.funs,ok.frf⟩
theorem Cx.Ok.unwish {X:Cx}{E:Value->Shared->Prop}(ok:(X.wish E).Ok):X.Ok :=
 ⟨ok.mod,ok.kind,ok.glob,ok.blt,ok.above,ok.inj,ok.has,ok.cab,ok.hd,ok.frames,ok.stk,ok.exf,ok.bs,ok.bsz,ok.noex,ok.exfs,ok.funs,ok.frf⟩
section
variable {X:Cx}{pins:List (Addr×Obj)}{σ:St}{H:Hp}{s:Shared}{E:Value->Shared->Prop}
theorem Inv.wish (I:Inv X pins σ H s) (E:Value->Shared->Prop):Inv (X.wish E) pins σ H s:=⟨I.ok.wish E,I.os,I.bare,I.base,I.loc,I.cell,I.free,I.freeC,I.pin,I.hok,I.len⟩
theorem Inv.unwish (I:Inv (X.wish E) pins σ H s):Inv X pins σ H s:=⟨I.ok.unwish,I.os,I.bare,I.base,I.loc,I.cell,I.free,I.freeC,I.pin,I.hok,I.len⟩
theorem SP.unwish {D:Ends}{f:Flow}{s':Shared}(h:SP (X.wish E) pins D f s'):SP X pins D f s':=by
 cases f with
 | next=>obtain⟨σ',H',I,q⟩:=h;exact⟨σ',H',I.unwish,q⟩
 | brk=>obtain⟨σ',H',I,q⟩:=h;exact⟨σ',H',I.unwish,q⟩
 | cont=>obtain⟨σ',H',I,q⟩:=h;exact⟨σ',H',I.unwish,q⟩
 | ret u=>obtain⟨v,σ',H',I,r,q⟩:=h;exact⟨v,σ',H',I.unwish,r,q⟩
theorem PSs.nox {st:List Stmt}{t:TS}(h:PSs X.nox st t):PSs X st t:=fun pins s σ H D I hw =>
 BH (h pins s σ H D (I.wish _) hw) (fun _ _ q=>q.unwish) fun _ _ z=>Cm z
end
section
variable {X:Cx}{st:Stmt}{rest:List Stmt}{t u:TS}{e:Expr}{te:TE}{pos:Pos}
noncomputable def a7g:TS:=fun D σ H=>D.nx σ H
noncomputable def tSeq (t u:TS):TS:=fun D σ H=>t { D with nx:=u D } σ H
theorem zi:PSs X [] a7g:=fun _ _ σ H _ I h=>E4 ⟨σ,H,I,h⟩
theorem kn (h1:PS X st t) (h2:PSs X rest u):PSs X (st::rest) (tSeq t u):=by
 intro pins s σ H D I h
 refine Io (thn (h1 pins s σ H { D with nx:=u D } I h) fun f s1 q=>?_)
 cases f with
 | next =>
   obtain⟨σ',H',I',q⟩:=q
   exact h2 pins s1 σ' H' D I' q
 | ret v=>exact q
 | brk=>exact q
 | cont=>exact q
theorem jo (h1:PS X st t):PSs X [st] t:=by
 intro pins s σ H D I h
 refine Io (thn (h1 pins s σ H D I h) fun f s1 q=>?_)
 cases f with
 | next=>exact E4 q
 | ret v=>exact q
 | brk=>exact q
 | cont=>exact q
theorem Inv.quiet {pins:List (Addr×Obj)}{σ:St}{H:Hp}{s:Shared}(I:Inv X pins σ H s):interactive X.env=false:=by simp[interactive,I.ok.kind]
noncomputable def ql (te:TE):TS:=fun D σ H=>te σ H fun _ H1=>D.nx σ H1
theorem a02 (he:PE X e te) (hs:swapsWith e none pos.line X.env=pure false:=by rfl):PS X (.Expr e pos) (ql te):=by
 intro pins s σ H D I h
 exact wpAny_Expr_any (thn (he pins s σ H _ I h) fun v s1 ⟨x,H1,I1,r1,q1⟩=>⟨σ,H1,I1,q1⟩) I.quiet hs
noncomputable def tRet (te:TE):TS:=fun D σ H=>te σ H D.rt
theorem qe (he:PE X e te):PS X (.Return (some e) pos) (tRet te):=by
 intro pins s σ H D I h
 exact wpAny_Return_some (thn (he pins s σ H _ I h) fun v s1 ⟨x,H1,I1,r1,q1⟩=>⟨x,σ,H1,I1,r1,q1⟩)
noncomputable def a7b:TS:=fun D _ H=>D.rt .non H
theorem a7v:PS X (.Return none pos) a7b:=fun _ _ σ H _ I h=>wpAny_Return_none ⟨.non,σ,H,I,rfl,h⟩
noncomputable def tIfS (c:TT) (t u:TS):TS:=fun D σ H=>c σ H fun b H1=>if b=true then t D σ H1 else u D σ H1
theorem a7c {c:Expr}{a b:List Stmt}{tc:TT}(hc:PT X c tc) (ha:PSs X a t) (hb:PSs X b u):PS X (.If c a b pos) (tIfS tc t u):=by
 intro pins s σ H D I h
 refine wpAny_If (thn (hc pins s σ H _ I h) fun d s1 ⟨H1,I1,q1⟩=>?_)
 cases d with
 | true=>exact ha pins s1 σ H1 D I1 q1
 | false=>exact hb pins s1 σ H1 D I1 q1
end
abbrev TG:=V->St->Hp->(St->Hp->Prop)->Prop
abbrev TGs:=List V->St->Hp->(St->Hp->Prop)->Prop
noncomputable def PG (X:Cx) (target:Expr) (t:TG):Prop :=
 ∀(pins:List (Addr×Obj)) (s:Shared) (σ:St) (H:Hp) (v:V) (u:Value) (Q:St->Hp->Prop),Inv X pins σ H s->RelV v u->t v σ H Q->
   wpAny (model X.prog X.w) X.A (assign target X.env u) (fun _ s'=>∃σ' H',Inv X pins σ' H' s'/\Q σ' H') X.xe s
noncomputable def PGs (X:Cx) (ts:List Expr) (t:TGs):Prop :=
 ∀(pins:List (Addr×Obj)) (s:Shared) (σ:St) (H:Hp) (vs:List V) (us:List Value) (Q:St->Hp->Prop),Inv X pins σ H s->Vals vs us->t vs σ H Q->
   wpAny (model X.prog X.w) X.A (assignInOrder ((assignEach ts X.env).map (·.2)) us) (fun _ s'=>∃σ' H',Inv X pins σ' H' s'/\Q σ' H') X.xe s
abbrev TSet:=V->V->V->Hp->(Hp->Prop)->Prop
noncomputable def PSet (X:Cx) (t:TSet):Prop :=
 ∀(pins:List (Addr×Obj)) (s:Shared) (σ:St) (H:Hp) (o i v:V) (ov iv u:Value) (Q:Hp->Prop),Inv X pins σ H s->RelV o ov->RelV i iv->RelV v u->t o i v H Q->
   wpAny (model X.prog X.w) X.A (setItem ov iv u) (fun _ s'=>∃H',Inv X pins σ H' s'/\Q H') X.xe s
abbrev TIp:=V->V->Hp->VK->Prop
noncomputable def PIp (X:Cx) (op:Operator) (t:TIp):Prop :=
 ∀(pins:List (Addr×Obj)) (s:Shared) (σ:St) (H:Hp) (x y:V) (v u:Value) (Q:VK),Inv X pins σ H s->RelV x v->RelV y u->t x y H Q->
   wpAny (model X.prog X.w) X.A (inplaceOp op v u) (EP X pins σ Q) X.xe s
section
variable {X:Cx}{pos:Pos}
noncomputable def b7 (i:Nat):TG:=fun v σ H Q=>Q (σ.set i (some v)) H
theorem nh {i:Nat}{x:Str}(hN:X.N.Nodup) (hi:X.N[i]? = some x) (hx:Loc X.env.scope x) (hf:X.fn x=true\/X.env.scope.names.lookup x=some .local:=by first|exact .inl rfl|exact .inr rfl|assumption):PG X (.Name x pos) (b7 i):=by
 intro pins s σ H v u Q I r h
 exact Fk (ou I hN hi hx r (fun s' I'=>⟨_,H,I',h⟩) hf)
noncomputable def gNil:TGs:=fun vs σ H Q=>vs=[]/\Q σ H
noncomputable def ga (t:TG) (u:TGs):TGs:=fun vs σ H Q=>∃v r,vs=v::r/\t v σ H fun σ' H'=>u r σ' H' Q
theorem ni:PGs X [] gNil:=by
 intro pins s σ H vs us Q I r h
 obtain⟨e,h⟩:=h
 subst e
 cases r
 exact assignInOrder_nil ⟨σ,H,I,h⟩
theorem di {e:Expr}{es:List Expr}{t:TG}{u:TGs}(h1:PG X e t) (h2:PGs X es u)
   (hs:(assignEach (e::es) X.env).map (·.2)=assign e X.env::(assignEach es X.env).map (·.2):=by rfl):PGs X (e::es) (ga t u):=by
 intro pins s σ H vs us Q I r h
 obtain⟨v,vr,e1,h⟩:=h
 subst e1
 cases r with
 | cons r rr =>
   rw[hs]
   refine assignInOrder_cons (thn (h1 pins s σ H _ _ _ I r h) fun _ s1 ⟨σ1,H1,I1,q1⟩=>?_)
   exact h2 pins s1 σ1 H1 _ _ Q I1 rr q1
noncomputable def gTup (K:Ab) (n:Nat) (t:TGs):TG:=fun v σ H Q=>∃a xs,v=.ref a/\SqT K H a xs/\xs.length=n/\t xs σ H Q
theorem wf {es:List Expr}{k:Nat}{t:TGs}{n:Nat}(hc:X.calm=true) (h:PGs X es t)
   (hn:(assignEach es X.env).length=n:=by rfl) (hst:(assignEach es X.env).findIdx? (·.1)=none:=by rfl):PG X (.Tuple es k pos) (gTup X.K n t):=by
 intro pins s σ H v u Q I r hw
 obtain⟨a,xs,e1,hq,hl,hw⟩:=hw
 subst e1
 cases r
 obtain⟨its,rv,ht,hz⟩:=I.tuple hq
 refine assign_Tuple_tuple (I.ok.hd hc) ht (by simp[hn,<- hl,rv.length]) hst fun h' hx=>?_
 have I1:Inv X pins σ H { s with heap:=h' }:=I.kept (t':=s.toks) fun b o e=>hx b o (Aw (Ap e)) e
 exact h pins _ σ H xs _ Q I1 (by simpa using rv) hw
noncomputable def gSub (to ti:TE) (t:TSet):TG:=fun v σ H Q=>to σ H fun o H1=>ti σ H1 fun i H2=>t o i v H2 fun H3=>Q σ H3
theorem a9r {o i:Expr}{to ti:TE}{t:TSet}(ho:PE X o to) (hi:PE X i ti) (hs:PSet X t)
   (ha:∀v,assign (.Subscript o i pos) X.env v=(do
     let ov<-holding [v] (eval o X.env)
     let iv<-holding [v,ov] (eval i X.env)
     standAt pos
     holding [v,ov,iv] (setItem ov iv v)
     release [v,ov,iv] []):=by intro _;rfl):PG X (.Subscript o i pos) (gSub to ti t):=by
 intro pins s σ H v u Q I r h
 rw[ha]
 refine Aa (AS (thn (ho pins s σ H _ I h) fun ov s1 ⟨x,H1,I1,r1,q1⟩=>?_))
 refine Aa (AS (thn (hi pins s1 σ H1 _ I1 q1) fun iv s2 ⟨y,H2,I2,r2,q2⟩=>?_))
 refine Aa (Eo (Aa (AS (thn (hs pins s2 σ H2 x y v ov iv u _ I2 r1 r2 r q2) fun _ s3 ⟨H3,I3,q3⟩=>?_))))
 exact wpAny_release ⟨σ,H3,I3,q3⟩
noncomputable def tAsg (te:TE) (g:TG):TS:=fun D σ H=>te σ H fun x H1=>g x σ H1 D.nx
theorem a9s {tg e:Expr}{te:TE}{g:TG}(he:PE X e te) (hg:PG X tg g) (hs:swapsWithSole [tg] e pos.line X.env=pure false:=by rfl) (hw:swappedStores [tg] e X.env=pure none:=by rfl)
   (h1:(assignEach [tg] X.env).map (·.2)=[assign tg X.env]:=by rfl):PS X (.Assign [tg] e pos) (tAsg te g):=by
 intro pins s σ H D I h
 refine wpAny_Assign_stores (thn (he pins s σ H _ I h) fun v s1 ⟨x,H1,I1,r1,q1⟩=>?_) hs hw
 rw[h1]
 exact thn (hg pins s1 σ H1 x v _ I1 r1 q1) fun _ s2 q=>q
theorem a2t {i:Nat}{x:Str}{e:Expr}{te:TE}{pos':Pos}(hN:X.N.Nodup) (hi:X.N[i]? = some x) (hx:Loc X.env.scope x) (he:PE X e te) (hs:swapsWith e (some (.Name x pos')) pos.line X.env=pure false:=by rfl) (hf:X.fn x=true\/X.env.scope.names.lookup x=some .local:=by first|exact .inl rfl|exact .inr rfl|assumption) :
   PS X (.Assign [.Name x pos'] e pos) (tAsg te (b7 i)):=by
 intro pins s σ H D I h
 refine wpAny_Assign_Name (thn (he pins s σ H _ I h) fun v s1 ⟨y,H1,I1,r1,q1⟩=>?_) hs
 exact ou I1 hN hi hx r1 (fun s2 I2=>⟨_,H1,I2,q1⟩) hf
noncomputable def a7a (to ti te:TE) (tget:V->V->Hp->VK->Prop) (tip:TIp) (tset:TSet):TS:=fun D σ H=>to σ H fun o H1=>ti σ H1 fun i H2=>tget o i H2 fun x H3=>te σ H3 fun y H4=>tip x y H4 fun z H5=>tset o i z H5 fun H6=>D.nx σ H6
noncomputable def PGet (X:Cx) (t:V->V->Hp->VK->Prop):Prop :=
 ∀(pins:List (Addr×Obj)) (s:Shared) (σ:St) (H:Hp) (o i:V) (ov iv:Value) (Q:VK),Inv X pins σ H s->RelV o ov->RelV i iv->t o i H Q->
   wpAny (model X.prog X.w) X.A (getItem ov iv) (EP X pins σ Q) X.xe s
theorem a7y {o i e:Expr}{to ti te:TE}{tget:V->V->Hp->VK->Prop}{tip:TIp}{tset:TSet}{op:Operator}{tpos:Pos}(ho:PE X o to) (hi:PE X i ti) (hg:PGet X tget) (he:PE X e te) (hp:PIp X op tip) (hs:PSet X tset)
   (ha:∀ov iv new,augStore i ov iv new=(do holding [new,ov,iv] (setItem ov iv new);release [new,ov,iv] [];pure .next):=by intros;rfl):PS X (.AugAssign (.Subscript o i tpos) op e pos) (a7a to ti te tget tip tset):=by
 intro pins s σ H D I h
 refine wpAny_AugAssign_SubscriptAny (thn (ho pins s σ H _ I h) fun ov s1 ⟨x1,H1,I1,r1,q1⟩=>?_) ha
 refine thn (hi pins s1 σ H1 _ I1 q1) fun iv s2 ⟨x2,H2,I2,r2,q2⟩=>?_
 refine thn (hg pins s2 σ H2 x1 x2 ov iv _ I2 r1 r2 q2) fun old s3 ⟨x3,H3,I3,r3,q3⟩=>?_
 refine thn (he pins s3 σ H3 _ I3 q3) fun v s4 ⟨x4,H4,I4,r4,q4⟩=>?_
 refine thn (hp pins s4 σ H4 x3 x4 old v _ I4 r3 r4 q4) fun new s5 ⟨x5,H5,I5,r5,q5⟩=>?_
 exact thn (hs pins s5 σ H5 x1 x2 x5 ov iv new _ I5 r1 r2 r5 q5) fun _ s6 ⟨H6,I6,q6⟩=>⟨σ,H6,I6,q6⟩
noncomputable def ipI (f:Int->Int->Int):TIp:=fun x y H Q=>∃i j,x=.int i/\y=.int j/\Q (.int (f i j)) H
theorem aa1:PIp X .Add (ipI fun i j=>i+j):=by
 intro pins s σ H x y v u Q I r1 r2 h
 obtain⟨i,j,e1,e2,q⟩:=h
 subst e1;subst e2
 obtain⟨t,rfl⟩:=r1
 obtain⟨t',rfl⟩:=r2
 exact iadd_int ⟨.int _,H,I.tok _,⟨_,rfl⟩,q⟩
end
section
variable {X:Cx}{pos:Pos}
noncomputable def xi (c:TT) (tb:TS):TS:=fun D σ H=>∃W:Nat->St->Hp->Prop,(∃m,W m σ H)/\∀m σ H,W m σ H->
 c σ H fun b H1=>if b=true then ∃N:St->Hp->Prop,(∀σ' H',N σ' H'->∃m',m'<m/\W m' σ' H')/\tb { D with nx:=N,ct:=N,bk:=D.nx } σ H1 else D.nx σ H1
theorem a4r {c:Expr}{body:List Stmt}{tc:TT}{tb:TS}(hp:PassesOwn (model X.prog X.w) X.A X.env X.xe) (hc:PT X c tc) (hb:PSs X body tb):PS X (.While c body [] pos) (xi tc tb):=by
 intro pins s σ H D I h
 obtain⟨W,⟨m0,w0⟩,turn⟩:=h
 refine wpAny_While (codeAny_whileLoop (fun n s'=>∃σ' H',Inv X pins σ' H' s'/\W n σ' H') ?_ m0 ⟨σ,H,I,w0⟩)
 rintro n s1 ⟨σ1,H1,I1,w1⟩
 refine CK hp (thn (hc pins s1 σ1 H1 _ I1 (turn n σ1 H1 w1)) fun b s2 ⟨H2,I2,q2⟩=>?_)
 cases b with
 | true =>
   obtain⟨N,hN,q2⟩:=q2
   rw[if_pos rfl]
   refine CK hp (thn (hb pins s2 σ1 H2 _ I2 q2) fun f s3 q3=>?_)
   cases f with
   | next =>
     obtain⟨σ3,H3,I3,n3⟩:=q3
     obtain⟨m',hm,w3⟩:=hN σ3 H3 n3
     exact⟨m',hm,σ3,H3,I3,w3⟩
   | cont =>
     obtain⟨σ3,H3,I3,n3⟩:=q3
     obtain⟨m',hm,w3⟩:=hN σ3 H3 n3
     exact⟨m',hm,σ3,H3,I3,w3⟩
   | brk=>exact q3
   | ret v=>exact q3
 | false =>
   rw[if_neg Am]
   exact E4 ⟨σ1,H2,I2,q2⟩
end
structure It where
 go:Nat->Hp->Prop
 yld:Nat->Hp->V->Hp->Prop
 stop:Nat->Hp->Prop
noncomputable def FpOk (X:Cx) (pins:List (Addr×Obj)) (H:Hp) (b:Addr):Prop :=
 H b=none/\b≠X.env.locals/\b∉X.fs/\(b∈X.ex\/X.s₀.heap.objs.size<=b)/\(∀x c,X.env.cells.lookup x=some c->c≠b)/\∀p∈X.pn++pins,p.1≠b
theorem Inv.fpOk {X:Cx}{pins:List (Addr×Obj)}{σ:St}{H H':Hp}{s:Shared}{b:Addr}(I:Inv X pins σ H s) (hb:s.heap.objs.size<=b) (hn:H' b=none):FpOk X pins H' b:=by
 refine⟨hn,BD (AB I.lt hb),I.nofs hb,.inr (A0 I.sz hb),fun x c e z=>?_,fun p hp z=>?_⟩
 . obtain⟨v,q⟩:=I.cell x c e
   exact absurd (AB q.lt (by rw[z];exact hb)) (AZ _)
 . exact absurd (AB (Ap (I.pin p hp).1) (by rw[z];exact hb)) (AZ _)
structure Turn (P:Program) (w:World) (K:Ab) (tg:Expr) (J:It) (fp:List Addr) (it:Addr) (tn:Nat->Heap->Prop):Prop where
 mem:it∈fp
 obj:∀i h,tn i h->∀b∈fp,∃o,h.get? b=some o/\∀v,o.data≠.cell v
 keep:∀i h h',tn i h->(∀b∈fp,∀o,h.get? b=some o->h'.get? b=some o)->tn i h'
 item:∀(X:Cx),X.prog=P->X.w=w->X.K=K->X.calm=true->∀(i:Nat) (pins:List (Addr×Obj)) (s:Shared) (σ:St) (H:Hp) (E:Value->Shared->Prop),Inv X pins σ H s->(∀b∈fp,FpOk X pins H b)->tn i s.heap->J.go i H->
   wpAny (model P w) X.A (pyNext (.ref it)) (fun r s1=>∃u,r=some u/\
     wpAny (model P w) X.A (letOwnedTupleGo tg (.ref it) u) (fun _ s2=>∃x H',Inv X pins σ H' s2/\RelV x u/\J.yld i H x H'/\tn (i+1) s2.heap/\∀b∈fp,H' b=none) E s1) E s
 done:∀(X:Cx),X.prog=P->X.w=w->X.K=K->X.calm=true->∀(i:Nat) (pins:List (Addr×Obj)) (s:Shared) (σ:St) (H:Hp) (E:Value->Shared->Prop),Inv X pins σ H s->(∀b∈fp,FpOk X pins H b)->tn i s.heap->J.stop i H->
   wpAny (model P w) X.A (pyNext (.ref it)) (fun r s1=>r=none/\Inv X pins σ H s1) E s
 self:∀(A:Around) (i:Nat) (s:Shared) (Q:Value->Shared->Prop) (E:Value->Shared->Prop),tn i s.heap->Q (.ref it) s->wpAny (model P w) A (pyIter (.ref it)) Q E s
abbrev TI:=St->Hp->(It->Hp->Prop)->Prop
noncomputable def PIE (X:Cx) (pins:List (Addr×Obj)) (σ:St) (tg:Expr) (R:It->Hp->Prop) (itv:Value) (s2:Shared):Prop :=
 ∃(it:Addr) (fp:List Addr) (tn:Nat->Heap->Prop) (J:It) (H':Hp),itv=.ref it/\Inv X pins σ H' s2/\Turn X.prog X.w X.K tg J fp it tn/\tn 0 s2.heap/\(∀b∈fp,FpOk X pins H' b)/\R J H'
noncomputable def PI (X:Cx) (tg iter:Expr) (wi:TI):Prop :=
 ∀(pins:List (Addr×Obj)) (s:Shared) (σ:St) (H:Hp) (R:It->Hp->Prop),Inv X pins σ H s->wi σ H R->
   wpAny (model X.prog X.w) X.A (eval iter X.env) (fun v s1=>wpAny (model X.prog X.w) X.A (pyIter v) (PIE X pins σ tg R) X.xe s1) X.xe s
theorem qq {M:Model}{A:Around}{E:Value->Shared->Prop}{s:Shared}{tg:Expr}{it:Addr}{u:Value}{o:Obj}{n:String}{vs:Array Value}{Q:Unit->Shared->Prop}(ho:s.heap.get? it=some o) (hc:o.cls=.type n) (hd:o.data=.fields vs)
   (hn:["enumerate","zip","dict_itemiterator","dict_reverseitemiterator","odict_iterator","itertools.zip_longest","itertools.pairwise"].contains n=false) (hQ:Q () s):wpAny M A (letOwnedTupleGo tg (.ref it) u) Q E s:=by
 unfold letOwnedTupleGo
 cases tg<;>first
   | exact Ae hQ
   | (cases u<;>first
       | exact Ae hQ
       | (refine Aa (IG ho ?_)
          rw[hc,hd]
          show wpAny M A (if (["enumerate","zip","dict_itemiterator","dict_reverseitemiterator","odict_iterator","itertools.zip_longest","itertools.pairwise"].contains n && vs[0]? == some (rawInt _))=true then _ else _) Q E s
          rw[if_neg (by intro h;rw[hn,EI] at h;cases h)]
          exact Ae hQ))
noncomputable def Itl (K:Ab) (a:Addr):It :=
 ⟨fun i H=>∃xs x,SqL K H a xs/\xs[i]? = some x,fun i H x H'=>H'=H/\∀xs,SqL K H a xs->xs[i]? = some x,fun i H=>∃xs,SqL K H a xs/\xs.length<=i⟩
noncomputable def Itt (K:Ab) (a:Addr):It :=
 ⟨fun i H=>∃xs x,SqT K H a xs/\xs[i]? = some x,fun i H x H'=>H'=H/\∀xs,SqT K H a xs->xs[i]? = some x,fun i H=>∃xs,SqT K H a xs/\xs.length<=i⟩
noncomputable def Itr (lo:Int) (n:Nat):It:=⟨fun i _=>i<n,fun i H x H'=>H'=H/\x=.int (lo+i),fun i _=>n<=i⟩
theorem a2d {P:Program}{w:World}{K:Ab}{tg:Expr}(a it:Addr):Turn P w K tg (Itl K a) [it] it (fun i h=>h.IsListIter it a i) where
 mem:=by simp
 obj:=fun i h st b hb=>by
   have e:b=it:=by simpa using hb
   subst e
   obtain⟨o,e,c,d⟩:=st
   exact⟨o,e,fun v z=>by rw[d] at z;cases z⟩
 keep:=fun i h h' st k=>st.at fun o e=>k it (by simp) o e
 item:=by
   intro X hP hw hK hc i pins s σ H E I hf st hg
   subst hP hw hK
   obtain⟨xs,x,hq,hx⟩:=hg
   obtain⟨its,rv,p,hz⟩:=I.list hq
   obtain⟨u,hu,ru⟩:=rv.get hx
   obtain⟨f0,f1,f2,f3,f4,f5⟩:=hf it (by simp)
   refine El st p.isList (x:=u) (by simpa using hu) fun h' st' sb=>?_
   have I1:Inv X pins σ H { s with heap:=h' }:=I.turned (t':=s.toks) (fun b o hb e=>(sb.2 b hb).trans e) f0 f1 f3 f4 f5
   obtain⟨o,e,c,d⟩:=id st'
   exact⟨u,rfl,qq (s:={ s with heap:=h' }) e c d (by decide) ⟨x,H,I1,ru,⟨rfl,fun ys hy=>by rw[I.list_inj hy hq];exact hx⟩,st',fun b hb=>(hf b hb).1⟩⟩
 done:=by
   intro X hP hw hK hc i pins s σ H E I hf st hg
   subst hP hw hK
   obtain⟨xs,hq,hx⟩:=hg
   obtain⟨its,rv,p,hz⟩:=I.list hq
   obtain⟨f0,f1,f2,f3,f4,f5⟩:=hf it (by simp)
   have hl:=rv.length
   exact Eu (I.ok.hd hc) st p.isList (by simp;omega) fun h' eb=>⟨rfl,I.turned (t':=s.toks) (fun b o hb e=>eb b o hb e) f0 f1 f3 f4 f5⟩
 self:=fun _ _ _ _ _ st h=>wpAny_pyIter_listiter st h
theorem a0p {P:Program}{w:World}{K:Ab}{tg:Expr}(a it:Addr):Turn P w K tg (Itt K a) [it] it (fun i h=>h.IsTupleIter it a i) where
 mem:=by simp
 obj:=fun i h st b hb=>by
   have e:b=it:=by simpa using hb
   subst e
   obtain⟨o,e,c,d⟩:=st
   exact⟨o,e,fun v z=>by rw[d] at z;cases z⟩
 keep:=fun i h h' st k=>st.at fun o e=>k it (by simp) o e
 item:=by
   intro X hP hw hK hc i pins s σ H E I hf st hg
   subst hP hw hK
   obtain⟨xs,x,hq,hx⟩:=hg
   obtain⟨its,rv,p,hz⟩:=I.tuple hq
   obtain⟨u,hu,ru⟩:=rv.get hx
   obtain⟨f0,f1,f2,f3,f4,f5⟩:=hf it (by simp)
   refine wpAny_pyNext_tuple_item st (show s.heap.IsTuple a its.toArray from p) (x:=u) (by simpa using hu) fun h' st' sb=>?_
   have I1:Inv X pins σ H { s with heap:=h' }:=I.turned (t':=s.toks) (fun b o hb e=>(sb.2 b hb).trans e) f0 f1 f3 f4 f5
   obtain⟨o,e,c,d⟩:=id st'
   exact⟨u,rfl,qq (s:={ s with heap:=h' }) e c d (by decide) ⟨x,H,I1,ru,⟨rfl,fun ys hy=>by rw[I.tuple_inj hy hq];exact hx⟩,st',fun b hb=>(hf b hb).1⟩⟩
 done:=by
   intro X hP hw hK hc i pins s σ H E I hf st hg
   subst hP hw hK
   obtain⟨xs,hq,hx⟩:=hg
   obtain⟨its,rv,p,hz⟩:=I.tuple hq
   obtain⟨f0,f1,f2,f3,f4,f5⟩:=hf it (by simp)
   have hl:=rv.length
   exact wpAny_pyNext_tuple_end (I.ok.hd hc) st (show s.heap.IsTuple a its.toArray from p) (by simp;omega) fun h' eb=>⟨rfl,I.turned (t':=s.toks) (fun b o hb e=>eb b o hb e) f0 f1 f3 f4 f5⟩
 self:=fun _ _ _ _ _ st h=>wpAny_pyIter_tupleiter st h
theorem a0z {P:Program}{w:World}{K:Ab}{tg:Expr}(it:Addr) (lo:Int) (n:Nat):Turn P w K tg (Itr lo n) [it] it (fun i h=>IsRangeIter h it (lo+(i:Nat)*1) ((n:Int) - (i:Nat)) 1) where
 mem:=by simp
 obj:=fun i h st b hb=>by
   have e:b=it:=by simpa using hb
   subst e
   exact⟨_,st,fun v z=>by
     have z':Data.fields _=Data.cell v:=z
     cases z'⟩
 keep:=fun i h h' st k=>k it (by simp) _ st
 item:=by
   intro X hP hw hK hc i pins s σ H E I hf st hg
   subst hP hw hK
   obtain⟨f0,f1,f2,f3,f4,f5⟩:=hf it (by simp)
   have W:=Jf (prog:=X.prog) (w:=X.w) (I.ok.hd hc) it lo 1 n
   refine W.item i s _ _ hg st fun v h' tk hv st' kk=>?_
   obtain⟨t,rfl⟩:=hv
   have I1:Inv X pins σ H { s with heap:=h',toks:=tk }:=I.turned (fun b o hb e=>kk b o (by simpa using hb) e) f0 f1 f3 f4 f5
   refine⟨_,rfl,qq (s:={ s with heap:=h',toks:=tk }) (n := "range_iterator") st' rfl rfl (by decide) ⟨.int (lo+i),H,I1,⟨t,?_⟩,⟨rfl,rfl⟩,st',fun b hb=>(hf b hb).1⟩⟩
   rw[Int.mul_one]
 done:=by
   intro X hP hw hK hc i pins s σ H E I hf st hg
   subst hP hw hK
   obtain⟨f0,f1,f2,f3,f4,f5⟩:=hf it (by simp)
   exact FY (I.ok.hd hc) st (by have:n<=i:=hg;omega) fun h' eb=>⟨rfl,I.turned (t':=s.toks) (fun b o hb e=>eb b o hb e) f0 f1 f3 f4 f5⟩
 self:=fun _ _ _ _ _ st h=>FZ st h
section
variable {X:Cx}{tg:Expr}
noncomputable def a1o (K:Ab) (tl:TE):TI:=fun σ H R=>tl σ H fun x H1=>∃a,x=.ref a/\(∃xs,SqL K H1 a xs)/\R (Itl K a) H1
noncomputable def iTup (K:Ab) (tl:TE):TI:=fun σ H R=>tl σ H fun x H1=>∃a,x=.ref a/\(∃xs,SqT K H1 a xs)/\R (Itt K a) H1
theorem zd {l:Expr}{tl:TE}(hl:PE X l tl):PI X tg l (a1o X.K tl):=by
 intro pins s σ H R I h
 refine thn (hl pins s σ H _ I h) fun v s1 ⟨x,H1,I1,r1,q1⟩=>?_
 obtain⟨a,e,⟨xs,hq⟩,q⟩:=q1
 subst e
 cases r1
 obtain⟨its,rv,p,hz⟩:=I1.list hq
 refine Cw p.isList ?_
 refine⟨s1.heap.objs.size,[s1.heap.objs.size],_,_,H1,rfl,I1.kept (t':=s1.toks) fun b o e=>Ac _ e,a2d a _,⟨_,Ak _ rfl,rfl,rfl⟩,fun b hb=>?_,q⟩
 have e:b=s1.heap.objs.size:=by simpa using hb
 subst e
 exact I1.fpOk (Aj _) (I1.hok.fresh (Aj _))
theorem a3z {l:Expr}{tl:TE}(hl:PE X l tl):PI X tg l (iTup X.K tl):=by
 intro pins s σ H R I h
 refine thn (hl pins s σ H _ I h) fun v s1 ⟨x,H1,I1,r1,q1⟩=>?_
 obtain⟨a,e,⟨xs,hq⟩,q⟩:=q1
 subst e
 cases r1
 obtain⟨its,rv,p,hz⟩:=I1.tuple hq
 refine DT (show s1.heap.IsTuple a its.toArray from p) ?_
 refine⟨s1.heap.objs.size,[s1.heap.objs.size],_,_,H1,rfl,I1.kept (t':=s1.toks) fun b o e=>Ac _ e,a0p a _,⟨_,Ak _ rfl,rfl,rfl⟩,fun b hb=>?_,q⟩
 have e:b=s1.heap.objs.size:=by simpa using hb
 subst e
 exact I1.fpOk (Aj _) (I1.hok.fresh (Aj _))
theorem xq {pins:List (Addr×Obj)}{σ:St}{H:Hp}{s:Shared}{R:It->Hp->Prop}{E:Value->Shared->Prop}{lo hi:Int}{t u v:Tok}{tk:Nat}(I:Inv X pins σ H s) (h1 : -(2 ^ 62)<=lo) (h2:lo<2 ^ 62) (h3 : -(2 ^ 62)<=hi) (h4:hi<2 ^ 62)
   (q:R (Itr lo (hi - lo).toNat) H):wpAny (model X.prog X.w) X.A (pyIter (.ref s.heap.objs.size)) (PIE X pins σ tg R) E { s with heap:=s.heap.push { cls:=.type "range",data:=.fields #[.int lo t,.int hi u,.int 1 v] },toks:=tk }:=by
 refine Hz (Jg ..) (small_one h1 h2 h3 h4) ?_
 have I1:Inv X pins σ H { s with heap:=s.heap.push { cls:=.type "range",data:=.fields #[.int lo t,.int hi u,.int 1 v] },toks:=tk }:=I.kept fun b o e=>Ac _ e
 refine⟨(s.heap.push { cls:=.type "range",data:=.fields #[.int lo t,.int hi u,.int 1 v] }).objs.size,[(s.heap.push { cls:=.type "range",data:=.fields #[.int lo t,.int hi u,.int 1 v] }).objs.size],_,_,H,rfl,
   I1.kept (t':=tk) fun b o e=>Ac _ e,a0z _ lo (hi - lo).toNat,?_,fun b hb=>?_,q⟩
 . have e1:lo+((0:Nat):Int)*1=lo:=by simp
   have e2:(((hi - lo).toNat:Nat):Int) - ((0:Nat):Int)=Cg lo hi 1:=by rw[rangeSize_one];split<;>omega
   show IsRangeIter _ _ (lo+((0:Nat):Int)*1) ((((hi - lo).toNat:Nat):Int) - ((0:Nat):Int)) 1
   rw[e1,e2]
   exact Ak _ rfl
 . have e:b=(s.heap.push { cls:=.type "range",data:=.fields #[.int lo t,.int hi u,.int 1 v] }).objs.size:=by simpa using hb
   subst e
   exact I1.fpOk (Aj _) (I1.hok.fresh (Aj _))
noncomputable def a73 (ta:TA):TI:=fun σ H R=>ta σ H fun vs H1=>∃j:Int,vs=[.int j] /\ -(2 ^ 62)<=j/\j<2 ^ 62/\R (Itr 0 j.toNat) H1
noncomputable def a6s (ta:TA):TI:=fun σ H R=>ta σ H fun vs H1=>∃i j:Int,vs=[.int i,.int j]/\(-(2 ^ 62)<=i/\i<2 ^ 62 /\ -(2 ^ 62)<=j/\j<2 ^ 62)/\R (Itr i (j - i).toNat) H1
theorem a4d {a:Expr}{ta:TA}{p pos:Pos}(hg:Gl X "range") (hm:X.mg "range" = none) (ha:PA X [a] ta) (hs:starEach [a] X.env=[(false,eval a X.env)]:=by rfl):PI X tg (.Call (.Name "range" p) [a] [] pos) (a73 ta):=by
 intro pins s σ H R I h
 refine Call_ (fj I hg hm boot_range (Bs (thn (ha pos pins s σ H _ I h) fun us s1 ⟨vs,H1,I1,r1,q1⟩=>?_) hs rfl))
 obtain⟨j,e,q1,q2,q⟩:=q1
 subst e
 cases r1 with
 | cons r rr =>
   cases rr
   obtain⟨t,rfl⟩:=r
   exact call_range_1 (xq I1 (by omega) (by omega) q1 q2 (by simpa using q))
theorem a3a {a b:Expr}{ta:TA}{p pos:Pos}(hg:Gl X "range") (hm:X.mg "range" = none) (ha:PA X [a,b] ta) (hs:starEach [a,b] X.env=[(false,eval a X.env),(false,eval b X.env)]:=by rfl) (hs2:starEach [b] X.env=[(false,eval b X.env)]:=by rfl) :
   PI X tg (.Call (.Name "range" p) [a,b] [] pos) (a6s ta):=by
 intro pins s σ H R I h
 refine Call_ (fj I hg hm boot_range (Bs (thn (ha pos pins s σ H _ I h) fun us s1 ⟨vs,H1,I1,r1,q1⟩=>?_) (by rw[hs,hs2]) (by rw[hs2];rfl)))
 obtain⟨i,j,e,⟨q1,q2,q3,q4⟩,q⟩:=q1
 subst e
 cases r1 with
 | cons r rr =>
   cases rr with
   | cons r' rr =>
     cases rr
     obtain⟨t,rfl⟩:=r
     obtain⟨t',rfl⟩:=r'
     exact call_range_2 (xq I1 q1 q2 q3 q4 q)
noncomputable def tFor (wi:TI) (g:TG) (tb:TS):TS:=fun D σ H=>wi σ H fun J H1=>∃W:Nat->Nat->St->Hp->Prop,(∃m,W 0 m σ H1)/\∀i m σ H,W i m σ H->
 (J.stop i H/\D.nx σ H)\/(J.go i H/\∃N:St->Hp->Prop,(∀σ' H',N σ' H'->∃m',m'<m/\W (i+1) m' σ' H')/\∀x H',J.yld i H x H'->g x σ H' fun σ2 H2=>tb { D with nx:=N,ct:=N,bk:=D.nx } σ2 H2)
noncomputable def j0 (fp:List Addr) (h:Heap):List (Addr×Obj):=fp.filterMap fun b=>(h.get? b).map fun o=>(b,o)
theorem fq {fp:List Addr}{h:Heap}{b:Addr}{o:Obj}(hb:b∈fp) (e:h.get? b=some o):(b,o)∈j0 fp h:=List.mem_filterMap.mpr ⟨b,hb,by rw[e];rfl⟩
theorem a2m {fp:List Addr}{h:Heap}{p:Addr×Obj}(hp:p∈j0 fp h):p.1∈fp/\h.get? p.1=some p.2:=by
 obtain⟨b,hb,e⟩:=List.mem_filterMap.mp hp
 cases q:h.get? b with
 | none=>rw[q] at e;cases e
 | some o =>
   rw[q] at e
   have e':(b,o)=p:=Ay e
   subst e'
   exact⟨hb,q⟩
theorem Inv.pinned {pins:List (Addr×Obj)}{σ:St}{H:Hp}{s:Shared}{fp:List Addr}(I:Inv X pins σ H s) (hf:∀b∈fp,FpOk X pins H b) (ho:∀b∈fp,∃o,s.heap.get? b=some o/\∀v,o.data≠.cell v):Inv X (pins++j0 fp s.heap) σ H s :=
 I.pins_of fun p hp=>(Al.mp hp).elim (fun z=>I.pin p (AO _ z)) fun z=>by
   obtain⟨hb,e⟩:=a2m z
   obtain⟨f0,f1,f2,_⟩:=hf p.1 hb
   obtain⟨o,e',d⟩:=ho p.1 hb
   rw[e] at e';cases e'
   exact⟨e,f0,f1,f2,d⟩
theorem Inv.unpinned {pins pl:List (Addr×Obj)}{σ:St}{H:Hp}{s:Shared}(I:Inv X (pins++pl) σ H s):Inv X pins σ H s:=I.pins_of fun p hp=>I.pin p (AO _ (Ct _ hp))
theorem a3e {iter:Expr}{body:List Stmt}{wi:TI}{g:TG}{tb:TS}{pos:Pos}(hp:PassesOwn (model X.prog X.w) X.A X.env X.xe) (hc:X.calm=true) (hi:PI X tg iter wi) (hg:PG X tg g) (hb:PSs X body tb)
   (hs:∀x,foldedSetIterable iter X.env x=pure x:=by intro _;rfl):PS X (.For tg iter body [] pos) (tFor wi g tb):=by
 intro pins s σ H D I h
 refine wpAny_For (thn (hi pins s σ H _ I h) fun v s1 h1=>thn h1 fun itv s2 h2=>?_) hs
 obtain⟨it,fp,tn,J,H2,e,I2,T,st2,f2,W,⟨m0,w0⟩,turn⟩:=h2
 subst e
 have stat:∀{H':Hp},(∀b∈fp,H' b=none)->∀b∈fp,FpOk X pins H' b:=fun hn b hb=>⟨hn b hb,(f2 b hb).2⟩
 refine codeAny_forLoop_any (fun n s'=>∃i σ' H',Inv X pins σ' H' s'/\tn i s'.heap/\(∀b∈fp,H' b=none)/\W i n σ' H') ?_ m0 ⟨0,σ,H2,I2,st2,fun b hb=>(f2 b hb).1,w0⟩
 rintro n s3 ⟨i,σ3,H3,I3,st3,fr3,w3⟩
 rcases turn i n σ3 H3 w3 with⟨stop,qn⟩|⟨go,N,hN,step⟩
 . refine CK hp (thn (T.done X rfl rfl rfl hc i pins s3 σ3 H3 X.xe I3 (stat fr3) st3 stop) fun r s4 ⟨hr,I4⟩=>?_)
   subst hr
   exact E4 ⟨σ3,H3,I4,qn⟩
 . refine CK hp (thn (T.item X rfl rfl rfl hc i pins s3 σ3 H3 X.xe I3 (stat fr3) st3 go) fun r s4 ⟨u,hr,h4⟩=>?_)
   subst hr
   refine CK hp (thn h4 fun _ s5 ⟨x,H5,I5,r5,y5,st5,fr5⟩=>?_)
   have I5':=I5.pinned (stat fr5) (T.obj _ _ st5)
   refine CK hp (thn (hg _ s5 σ3 H5 x u _ I5' r5 (step x H5 y5)) fun _ s6 ⟨σ6,H6,I6,q6⟩=>?_)
   refine CK hp (thn (hb _ s6 σ6 H6 _ I6 q6) fun f s7 q7=>?_)
   have again:∀{σ7:St} {H7:Hp},Inv X (pins++j0 fp s5.heap) σ7 H7 s7->N σ7 H7->∃m,m<n/\∃i σ' H',Inv X pins σ' H' s7/\tn i s7.heap/\(∀b∈fp,H' b=none)/\W i m σ' H':=fun {σ7 H7} I7 n7=>by
     obtain⟨m',hm,w7⟩:=hN σ7 H7 n7
     refine⟨m',hm,i+1,σ7,H7,I7.unpinned,T.keep _ _ _ st5 fun b hb o e=>(I7.pin (b,o) (AO _ (AO _ (fq hb e)))).1,fun b hb=>?_,w7⟩
     obtain⟨o,e,d⟩:=T.obj _ _ st5 b hb
     exact (I7.pin (b,o) (AO _ (AO _ (fq hb e)))).2.1
   cases f with
   | next=>obtain⟨σ7,H7,I7,n7⟩:=q7;exact again I7 n7
   | cont=>obtain⟨σ7,H7,I7,n7⟩:=q7;exact again I7 n7
   | brk=>obtain⟨σ7,H7,I7,q7⟩:=q7;exact⟨σ7,H7,I7.unpinned,q7⟩
   | ret v=>obtain⟨x7,σ7,H7,I7,r7,q7⟩:=q7;exact⟨x7,σ7,H7,I7.unpinned,r7,q7⟩
end
theorem gw {K:Ab}{a:Addr}{xs:List V}{g:TG}{tb:TS}{D:Ends}{σ:St}{H:Hp}(Pv:Nat->St->Hp->Prop) (h0:Pv 0 σ H) (hl:∀i σ H,i<=xs.length->Pv i σ H->SqL K H a xs)
   (hs:∀i x σ H,xs[i]? = some x->Pv i σ H->g x σ H fun σ2 H2=>tb { D with nx:=Pv (i+1),ct:=Pv (i+1),bk:=D.nx } σ2 H2) (hd:∀σ H,Pv xs.length σ H->D.nx σ H) :
   ∃W:Nat->Nat->St->Hp->Prop,(∃m,W 0 m σ H)/\∀i m σ H,W i m σ H->
     ((Itl K a).stop i H/\D.nx σ H)\/((Itl K a).go i H/\∃N:St->Hp->Prop,(∀σ' H',N σ' H'->∃m',m'<m/\W (i+1) m' σ' H')/\∀x H',(Itl K a).yld i H x H'->g x σ H' fun σ2 H2=>tb { D with nx:=N,ct:=N,bk:=D.nx } σ2 H2):=by
 refine⟨fun i m σ H=>m=xs.length - i/\i<=xs.length/\Pv i σ H,⟨xs.length,by simp,A8 _,h0⟩,?_⟩
 rintro i m σ H ⟨rfl,hi,p⟩
 have q:=hl i σ H hi p
 by_cases hlt:i<xs.length
 . refine .inr ⟨⟨xs,xs[i],q,by simp[hlt]⟩,Pv (i+1),fun σ' H' p'=>⟨xs.length - (i+1),by omega,rfl,hlt,p'⟩,fun x H' y=>?_⟩
   obtain⟨e,y⟩:=y
   subst e
   exact hs i x σ _ (y xs q) p
 . have e:i=xs.length:=by omega
   subst e
   exact .inl ⟨⟨xs,q,Aj _⟩,hd σ H p⟩
theorem mo {K:Ab}{a:Addr}{xs:List V}{g:TG}{tb:TS}{D:Ends}{σ:St}{H:Hp}(Pv:Nat->St->Hp->Prop) (h0:Pv 0 σ H) (hl:∀i σ H,i<=xs.length->Pv i σ H->SqT K H a xs)
   (hs:∀i x σ H,xs[i]? = some x->Pv i σ H->g x σ H fun σ2 H2=>tb { D with nx:=Pv (i+1),ct:=Pv (i+1),bk:=D.nx } σ2 H2) (hd:∀σ H,Pv xs.length σ H->D.nx σ H) :
   ∃W:Nat->Nat->St->Hp->Prop,(∃m,W 0 m σ H)/\∀i m σ H,W i m σ H->
     ((Itt K a).stop i H/\D.nx σ H)\/((Itt K a).go i H/\∃N:St->Hp->Prop,(∀σ' H',N σ' H'->∃m',m'<m/\W (i+1) m' σ' H')/\∀x H',(Itt K a).yld i H x H'->g x σ H' fun σ2 H2=>tb { D with nx:=N,ct:=N,bk:=D.nx } σ2 H2):=by
 refine⟨fun i m σ H=>m=xs.length - i/\i<=xs.length/\Pv i σ H,⟨xs.length,by simp,A8 _,h0⟩,?_⟩
 rintro i m σ H ⟨rfl,hi,p⟩
 have q:=hl i σ H hi p
 by_cases hlt:i<xs.length
 . refine .inr ⟨⟨xs,xs[i],q,by simp[hlt]⟩,Pv (i+1),fun σ' H' p'=>⟨xs.length - (i+1),by omega,rfl,hlt,p'⟩,fun x H' y=>?_⟩
   obtain⟨e,y⟩:=y
   subst e
   exact hs i x σ _ (y xs q) p
 . have e:i=xs.length:=by omega
   subst e
   exact .inl ⟨⟨xs,q,Aj _⟩,hd σ H p⟩
theorem fh {lo:Int}{n:Nat}{g:TG}{tb:TS}{D:Ends}{σ:St}{H:Hp}(Pv:Nat->St->Hp->Prop) (h0:Pv 0 σ H)
   (hs:∀i σ H,i<n->Pv i σ H->g (.int (lo+i)) σ H fun σ2 H2=>tb { D with nx:=Pv (i+1),ct:=Pv (i+1),bk:=D.nx } σ2 H2) (hd:∀σ H,Pv n σ H->D.nx σ H) :
   ∃W:Nat->Nat->St->Hp->Prop,(∃m,W 0 m σ H)/\∀i m σ H,W i m σ H->
     ((Itr lo n).stop i H/\D.nx σ H)\/((Itr lo n).go i H/\∃N:St->Hp->Prop,(∀σ' H',N σ' H'->∃m',m'<m/\W (i+1) m' σ' H')/\∀x H',(Itr lo n).yld i H x H'->g x σ H' fun σ2 H2=>tb { D with nx:=N,ct:=N,bk:=D.nx } σ2 H2):=by
 refine⟨fun i m σ H=>m=n - i/\i<=n/\Pv i σ H,⟨n,by simp,A8 _,h0⟩,?_⟩
 rintro i m σ H ⟨rfl,hi,p⟩
 by_cases hlt:i<n
 . refine .inr ⟨hlt,Pv (i+1),fun σ' H' p'=>⟨n - (i+1),by omega,rfl,hlt,p'⟩,fun x H' y=>?_⟩
   obtain⟨e,y⟩:=y
   subst e y
   exact hs i σ _ hlt p
 . have e:i=n:=by omega
   subst e
   exact .inl ⟨Aj _,hd σ H p⟩
abbrev R2:=V->V->Hp->VK->Prop
noncomputable def OpR (X:Cx) (f:Value->Value->Sem Value) (r:R2):Prop :=
 ∀(pins:List (Addr×Obj)) (s:Shared) (σ:St) (H:Hp) (x y:V) (v u:Value) (Q:VK),Inv X pins σ H s->RelV x v->RelV y u->r x y H Q->
   wpAny (model X.prog X.w) X.A (f v u) (EP X pins σ Q) X.xe s
noncomputable def UnR (X:Cx) (f:Value->Sem Value) (r:V->Hp->VK->Prop):Prop :=
 ∀(pins:List (Addr×Obj)) (s:Shared) (σ:St) (H:Hp) (x:V) (v:Value) (Q:VK),Inv X pins σ H s->RelV x v->r x H Q->
   wpAny (model X.prog X.w) X.A (f v) (EP X pins σ Q) X.xe s
noncomputable def c7 (X:Cx) (f:Value) (r:List V->Hp->VK->Prop):Prop :=
 ∀(pins:List (Addr×Obj)) (s:Shared) (σ:St) (H:Hp) (xs:List V) (us:List Value) (Q:VK),Inv X pins σ H s->Vals xs us->r xs H Q->
   wpAny (model X.prog X.w) X.A (call f us) (EP X pins σ Q) X.xe s
noncomputable def tOp (r:R2) (ta tb:TE):TE:=fun σ H Q=>ta σ H fun x H1=>tb σ H1 fun y H2=>r x y H2 Q
noncomputable def tUn (r:V->Hp->VK->Prop) (ta:TE):TE:=fun σ H Q=>ta σ H fun x H1=>r x H1 Q
noncomputable def rI (C:Int->Int->Prop) (g:Int->Int->V):R2:=fun x y H Q=>∃i j,x=.int i/\y=.int j/\C i j/\Q (g i j) H
noncomputable def rI0 (g:Int->Int->V):R2:=fun x y H Q=>∃i j,x=.int i/\y=.int j/\Q (g i j) H
noncomputable def rU (g:Int->V):V->Hp->VK->Prop:=fun x H Q=>∃i,x=.int i/\Q (g i) H
section
variable {X:Cx}{a b c:Expr}{ta tb tc:TE}{pos:Pos}
theorem binT (ha:PE X a ta) (hb:PE X b tb) {pins:List (Addr×Obj)}{s:Shared}{σ:St}{H:Hp}{R:V->V->Hp->Prop}(I:Inv X pins σ H s)
   (h:ta σ H fun x H1=>tb σ H1 fun y H2=>R x y H2) {Q:Value->Shared->Prop} {f:Value->Value->Sem Value}
   (hf:∀v u s2 x y H2,Inv X pins σ H2 s2->RelV x v->RelV y u->R x y H2->wpAny (model X.prog X.w) X.A (f v u) Q X.xe s2) :
   wpAny (model X.prog X.w) X.A (eval a X.env) (fun v s₁=>wpAny (model X.prog X.w) X.A (eval b X.env) (fun u s₂=>wpAny (model X.prog X.w) X.A (f v u) Q X.xe s₂) X.xe s₁) X.xe s:=by
 refine thn (ha pins s σ H _ I h) fun v s1 ⟨x,H1,I1,r1,q1⟩=>?_
 refine thn (hb pins s1 σ H1 _ I1 q1) fun u s2 ⟨y,H2,I2,r2,q2⟩=>?_
 exact hf v u s2 x y H2 I2 r1 r2 q2
theorem a6q {op:Operator}{r:R2}(ho:OpR X (binaryOp op) r) (ha:PE X a ta) (hb:PE X b tb):PE X (.BinOp a op b pos) (tOp r ta tb):=by
 intro pins s σ H Q I h
 exact wpAny_BinOp (binT ha hb I h fun v u s2 x y H2 I2 rx ry q=>ho pins s2 σ H2 x y v u Q I2 rx ry q)
theorem aax {op:UnaryOp}{r:V->Hp->VK->Prop}(ho:UnR X (unaryOp op) r) (ha:PE X a ta):PE X (.UnaryOp op a pos) (tUn r ta):=by
 intro pins s σ H Q I h
 exact UnaryOp_ (thn (ha pins s σ H _ I h) fun v s1 ⟨x,H1,I1,r1,q1⟩=>ho pins s1 σ H1 x v Q I1 r1 q1)
theorem opI {f:Value->Value->Sem Value}{C:Int->Int->Prop}{g:Int->Int->Int}
   (rule:∀(i j:Int) (t u:Tok) (s:Shared) (Q:Value->Shared->Prop) (E:Value->Shared->Prop),C i j->Q (.int (g i j) s.toks) { s with toks:=s.toks+1 }->wpAny (model X.prog X.w) X.A (f (.int i t) (.int j u)) Q E s) :
   OpR X f (rI C fun i j=>.int (g i j)):=by
 intro pins s σ H x y v u Q I rx ry h
 obtain⟨i,j,rfl,rfl,hc,q⟩:=h
 obtain⟨t,rfl⟩:=rx
 obtain⟨t',rfl⟩:=ry
 exact rule i j t t' s _ _ hc ⟨.int (g i j),H,I.tok _,⟨_,rfl⟩,q⟩
theorem opI0 {f:Value->Value->Sem Value}{g:Int->Int->Int}
   (rule:∀(i j:Int) (t u:Tok) (s:Shared) (Q:Value->Shared->Prop) (E:Value->Shared->Prop),Q (.int (g i j) s.toks) { s with toks:=s.toks+1 }->wpAny (model X.prog X.w) X.A (f (.int i t) (.int j u)) Q E s) :
   OpR X f (rI0 fun i j=>.int (g i j)):=by
 intro pins s σ H x y v u Q I rx ry h
 obtain⟨i,j,rfl,rfl,q⟩:=h
 obtain⟨t,rfl⟩:=rx
 obtain⟨t',rfl⟩:=ry
 exact rule i j t t' s _ _ ⟨.int (g i j),H,I.tok _,⟨_,rfl⟩,q⟩
theorem opB0 {f:Value->Value->Sem Value}{g:Int->Int->Bool}
   (rule:∀(i j:Int) (t u:Tok) (s:Shared) (Q:Value->Shared->Prop) (E:Value->Shared->Prop),Q (.bool (g i j)) s->wpAny (model X.prog X.w) X.A (f (.int i t) (.int j u)) Q E s) :
   OpR X f (rI0 fun i j=>.bl (g i j)):=by
 intro pins s σ H x y v u Q I rx ry h
 obtain⟨i,j,rfl,rfl,q⟩:=h
 obtain⟨t,rfl⟩:=rx
 obtain⟨t',rfl⟩:=ry
 exact rule i j t t' s _ _ ⟨.bl (g i j),H,I,rfl,q⟩
noncomputable def CDiv (i j:Int):Prop:=0<j/\j<1073741824
noncomputable def CPow (i j:Int):Prop:=0<=j/\j<=1000000/\i.natAbs<2 ^ 64
noncomputable def CMul (i j:Int):Prop:=(-(2 ^ 64)<i/\i<2 ^ 64)\/(-(2 ^ 64)<j/\j<2 ^ 64)
theorem CMul.ok {i j:Int}(h:CMul i j):IntMulOk i j:=by
 rcases h with⟨h1,h2⟩|⟨h1,h2⟩
 . exact .of_left (intBits_le_64 h1 h2)
 . exact .of_right (intBits_le_64 h1 h2)
theorem bm:OpR X (binaryOp .Add) (rI0 fun i j=>.int (i+j)):=opI0 fun _ _ _ _ _ _ _ q=>add_int q
theorem a9z:OpR X (binaryOp .Sub) (rI0 fun i j=>.int (i - j)):=opI0 fun _ _ _ _ _ _ _ q=>sub_int q
theorem jn:OpR X (binaryOp .Mult) (rI CMul fun i j=>.int (i*j)):=opI fun _ _ _ _ _ _ _ hc q=>mul_int q hc.ok
theorem gu:OpR X (binaryOp .FloorDiv) (rI CDiv fun i j=>.int (i / j)):=opI fun i j _ _ _ _ _ hc q=>by
 have h1:(0:Int)<j:=hc.1
 have h2:j<1073741824:=hc.2
 exact floordiv_int (by omega) (by rw[Fd i (by omega)];exact q) (.inl (PyProof.noPylong_small (by omega)))
theorem cv:OpR X (binaryOp .Mod) (rI (fun _ j=>0<j) fun i j=>.int (i % j)):=opI fun i j _ _ _ _ _ hc q=>by
 have h1:(0:Int)<j:=hc
 exact mod_int' (by omega) (by rw[Int.fmod_eq_emod_of_nonneg i (by omega)];exact q)
theorem aag:OpR X (binaryOp .Pow) (rI CPow fun i j=>.int (i ^ j.toNat)):=opI fun _ _ _ _ _ _ _ hc q=>pow_int_small hc.1 hc.2.1 hc.2.2 q
theorem unI {f:Value->Sem Value}{g:Int->Int}
   (rule:∀(i:Int) (t:Tok) (s:Shared) (Q:Value->Shared->Prop) (E:Value->Shared->Prop),Q (.int (g i) s.toks) { s with toks:=s.toks+1 }->wpAny (model X.prog X.w) X.A (f (.int i t)) Q E s) :
   UnR X f (rU fun i=>.int (g i)):=by
 intro pins s σ H x v Q I rx h
 obtain⟨i,rfl,q⟩:=h
 obtain⟨t,rfl⟩:=rx
 exact rule i t s _ _ ⟨.int (g i),H,I.tok _,⟨_,rfl⟩,q⟩
theorem bw:UnR X (unaryOp .USub) (rU fun i=>.int (-i)):=unI fun _ _ _ _ _ q=>neg_int q
end
noncomputable def scal:V->V->Bool
 | .non,.non=>true|.non,.int _=>true|.int _,.non=>true|.non,.bl _=>true|.bl _,.non=>true|.non,.str _=>true|.str _,.non=>true
 | .int _,.int _=>true|.bl _,.bl _=>true|.str _,.str _=>true|.byt _,.byt _=>true
 | .int _,.str _=>true|.str _,.int _=>true|.bl _,.str _=>true|.str _,.bl _=>true
 | _,_=>false
noncomputable def rEq:R2:=fun x y H Q=>scal x y=true/\Q (.bl (decide (x=y))) H
noncomputable def rNe:R2:=fun x y H Q=>scal x y=true/\Q (.bl (!decide (x=y))) H
theorem za {i j:Int}:decide (V.int i=V.int j)=(i == j):=by
 rw[Cj]
 simp
theorem a2k {i j:Bool}:decide (V.bl i=V.bl j)=(i == j):=by
 rw[Cj]
 simp
theorem yu {i j:Str}:decide (V.str i=V.str j)=(i == j):=by
 rw[Cj]
 simp
theorem a03 {i j:Array UInt8}:decide (V.byt i=V.byt j)=(i.toList == j.toList):=by
 rw[Cj]
 cases i
 cases j
 simp
section
variable {X:Cx}{a b c:Expr}{ta tb tc:TE}{pos:Pos}
theorem ba {pins:List (Addr×Obj)}{σ:St}{H:Hp}{s:Shared}{Q:VK}{k k':Bool}(I:Inv X pins σ H s) (q:Q (.bl k) H) (e:k=k'):EP X pins σ Q (.bool k') s:=by
 subst e
 exact⟨.bl k,H,I,rfl,q⟩
theorem bp:OpR X (compareOp .Eq) rEq:=by
 intro pins s σ H x y v u Q I rx ry h
 obtain⟨hs,q⟩:=h
 cases x with
 | non =>
   cases rx
   cases y with
   | non=>cases ry;exact PySem.EqNone.eq_none_none (ba I q (by simp))
   | bl j=>cases ry;exact PySem.EqNone.eq_none_bool (ba I q (by simp))
   | int j=>obtain⟨t',rfl⟩:=ry;exact PySem.EqNone.eq_none_int (ba I q (by simp))
   | str j=>obtain⟨t',rfl⟩:=ry;exact PySem.EqNone.eq_none_str (ba I q (by simp))
   | _=>exact absurd (show false=true from hs) Am
 | bl i =>
   cases rx
   cases y with
   | non=>cases ry;exact PySem.EqNone.eq_bool_none (ba I q (by simp))
   | bl j=>cases ry;exact eq_bool (ba I q a2k)
   | str j=>obtain⟨t',rfl⟩:=ry;exact PySem.EqMixed.eq_bool_str (ba I q (by simp))
   | _=>exact absurd (show false=true from hs) Am
 | int i =>
   obtain⟨t,rfl⟩:=rx
   cases y with
   | non=>cases ry;exact PySem.EqNone.eq_int_none (ba I q (by simp))
   | int j=>obtain⟨t',rfl⟩:=ry;exact eq_int (ba I q za)
   | str j=>obtain⟨t',rfl⟩:=ry;exact PySem.EqMixed.eq_int_str (ba I q (by simp))
   | _=>exact absurd (show false=true from hs) Am
 | str i =>
   obtain⟨t,rfl⟩:=rx
   cases y with
   | non=>cases ry;exact PySem.EqNone.eq_str_none (ba I q (by simp))
   | bl j=>cases ry;exact PySem.EqMixed.eq_str_bool (ba I q (by simp))
   | int j=>obtain⟨t',rfl⟩:=ry;exact PySem.EqMixed.eq_str_int (ba I q (by simp))
   | str j=>obtain⟨t',rfl⟩:=ry;exact eq_str (ba I q yu)
   | _=>exact absurd (show false=true from hs) Am
 | byt i =>
   obtain⟨t,rfl⟩:=rx
   cases y with
   | byt j=>obtain⟨t',rfl⟩:=ry;exact PySem.W.eq_bytes (ba I q a03)
   | _=>exact absurd (show false=true from hs) Am
 | _=>cases y<;>exact absurd (show false=true from hs) Am
theorem kx:OpR X (compareOp .NotEq) rNe:=by
 intro pins s σ H x y v u Q I rx ry h
 obtain⟨hs,q⟩:=h
 cases x with
 | non =>
   cases rx
   cases y with
   | non=>cases ry;exact PySem.EqNone.ne_none_none (ba I q (by simp))
   | bl j=>cases ry;exact PySem.EqNone.ne_none_bool (ba I q (by simp))
   | int j=>obtain⟨t',rfl⟩:=ry;exact PySem.EqNone.ne_none_int (ba I q (by simp))
   | str j=>obtain⟨t',rfl⟩:=ry;exact PySem.EqNone.ne_none_str (ba I q (by simp))
   | _=>exact absurd (show false=true from hs) Am
 | bl i =>
   cases rx
   cases y with
   | non=>cases ry;exact PySem.EqNone.ne_bool_none (ba I q (by simp))
   | bl j=>cases ry;exact ne_bool (ba I q (congrArg not a2k))
   | str j=>obtain⟨t',rfl⟩:=ry;exact PySem.EqMixed.ne_bool_str (ba I q (by simp))
   | _=>exact absurd (show false=true from hs) Am
 | int i =>
   obtain⟨t,rfl⟩:=rx
   cases y with
   | non=>cases ry;exact PySem.EqNone.ne_int_none (ba I q (by simp))
   | int j=>obtain⟨t',rfl⟩:=ry;exact ne_int (ba I q (congrArg not za))
   | str j=>obtain⟨t',rfl⟩:=ry;exact PySem.EqMixed.ne_int_str (ba I q (by simp))
   | _=>exact absurd (show false=true from hs) Am
 | str i =>
   obtain⟨t,rfl⟩:=rx
   cases y with
   | non=>cases ry;exact PySem.EqNone.ne_str_none (ba I q (by simp))
   | bl j=>cases ry;exact PySem.EqMixed.ne_str_bool (ba I q (by simp))
   | int j=>obtain⟨t',rfl⟩:=ry;exact PySem.EqMixed.ne_str_int (ba I q (by simp))
   | str j=>obtain⟨t',rfl⟩:=ry;exact ne_str (ba I q (congrArg not yu))
   | _=>exact absurd (show false=true from hs) Am
 | byt i =>
   obtain⟨t,rfl⟩:=rx
   cases y with
   | byt j=>obtain⟨t',rfl⟩:=ry;exact PySem.W.ne_bytes (ba I q (congrArg not a03))
   | _=>exact absurd (show false=true from hs) Am
 | _=>cases y<;>exact absurd (show false=true from hs) Am
theorem um:OpR X (compareOp .Lt) (rI0 fun i j=>.bl (decide (i<j))):=opB0 fun _ _ _ _ _ _ _ q=>lt_int q
theorem qh:OpR X (compareOp .Gt) (rI0 fun i j=>.bl (decide (j<i))):=opB0 fun _ _ _ _ _ _ _ q=>gt_int q
theorem a4i:OpR X (compareOp .In) (fun x y H Q=>∃i j,x=.str i/\y=.str j/\Q (.bl (!(Builtin.Str.occurrences j i 0 j.length 1).isEmpty)) H):=by
 intro pins s σ H x y v u Q I rx ry h
 obtain⟨i,j,rfl,rfl,q⟩:=h
 obtain⟨t,rfl⟩:=rx
 obtain⟨t',rfl⟩:=ry
 exact in_str (ba I q rfl)
theorem wg:OpR X (compareOp .Is) (fun x y H Q=>y=.non/\Q (.bl (decide (x=.non))) H):=by
 intro pins s σ H x y v u Q I rx ry h
 obtain⟨rfl,q⟩:=h
 cases ry
 refine is_none_gen (ba I q ?_)
 cases x<;>first
   | (cases rx;rfl)
   | (obtain⟨t,rfl⟩:=rx;rfl)
theorem a7w:OpR X (compareOp .IsNot) (fun x y H Q=>y=.non/\Q (.bl (!decide (x=.non))) H):=by
 intro pins s σ H x y v u Q I rx ry h
 obtain⟨rfl,q⟩:=h
 cases ry
 refine isnot_none_gen (ba I q ?_)
 cases x<;>first
   | (cases rx;rfl)
   | (obtain⟨t,rfl⟩:=rx;rfl)
theorem az (b:Expr) {op:CmpOp}(h:op≠.In:=by decide) (h2:op≠.NotIn:=by decide):behindInMarks op b=false:=by
 have e1:(op == CmpOp.In)=false:=by cases op<;>first|rfl|exact absurd rfl h
 have e2:(op == CmpOp.NotIn)=false:=by cases op<;>first|rfl|exact absurd rfl h2
 cases b<;>simp[behindInMarks,e1,e2]
theorem o8 {op:CmpOp}{r:R2}(ho:OpR X (compareOp op) r) (ha:PE X a ta) (hb:PE X b tb) (hm:behindInMarks op b=false):PE X (.Compare a [op] [b] pos) (tOp r ta tb):=by
 intro pins s σ H Q I h
 exact wpAny_Compare1 (binT ha hb I h fun v u s2 x y H2 I2 rx ry q=>ho pins s2 σ H2 x y v u Q I2 rx ry q) hm
noncomputable def ui (t:TE):TT:=fun σ H Q=>t σ H fun x H'=>∃k,x=.bl k/\Q k H'
theorem js {op:CmpOp}{r:R2}(ho:OpR X (compareOp op) r) (ha:PE X a ta) (hb:PE X b tb) (hm:behindInMarks op b=false):PT X (.Compare a [op] [b] pos) (ui (tOp r ta tb)):=by
 intro pins s σ H Q I h
 refine Gp (thn (ha pins s σ H _ I h) fun v s1 ⟨x,H1,I1,r1,q1⟩=>thn (hb pins s1 σ H1 _ I1 q1) fun u s2 ⟨y,H2,I2,r2,q2⟩ =>
   thn (ho pins s2 σ H2 x y v u _ I2 r1 r2 q2) fun c s3 ⟨z,H3,I3,r3,k,e,q3⟩=>?_) hm
 subst e
 cases r3
 exact Cv ⟨H3,I3,q3⟩
theorem jv:(sizeLine:Nat)<2 ^ 63:=by rw[Ga];decide
theorem gl:OpR X (binaryOp .Add) (fun x y H Q=>∃i j,x=.str i/\y=.str j/\i.length+j.length<=sizeLine/\Q (.str (i++j)) H):=by
 intro pins s σ H x y v u Q I rx ry h
 obtain⟨i,j,rfl,rfl,hz,q⟩:=h
 obtain⟨t,rfl⟩:=rx
 obtain⟨t',rfl⟩:=ry
 exact add_str (fun t' tk=>⟨.str (i++j),H,I.tok _,⟨_,rfl⟩,q⟩) hz
theorem km {x:V}{us:List Value}(r:Vals [x] us):∃u,us=[u]/\RelV x u:=by
 cases r with
 | cons r1 r2=>cases r2;exact⟨_,rfl,r1⟩
end
structure ObjM (h:Heap) (x dx C:Addr) (mA:Str->Option Value):Prop where
 obj:h.get? x=some (Cs C dx)
 ns:h.Ns1 dx mA
 ne:dx≠x
theorem a47 {h:Heap}{dx:Addr}{mA:Str->Option Value}(n:h.Ns1 dx mA):∃od,h.get? dx=some od/\∀name,EJ name od=some (mA name):=by
 obtain⟨o,es,ep,ho,hd,hk,_,hm⟩:=n
 refine⟨o,ho,fun name=>?_⟩
 have e:=hm name
 unfold nsFind findBy at e
 rw[<- HA] at e
 unfold EJ
 rw[hd]
 dsimp only
 split
 . rename_i y q
   rw[q] at e
   exact congrArg some e
 . rename_i q
   rw[q] at e
   have a:es.toList.any (·.refKey)=false:=by
     rw[List.any_eq_false]
     intro y hy
     obtain⟨z,t,hkey⟩:=hk y (Array.mem_toList_iff.mp hy)
     simp[DictEntry.refKey,hkey]
   have a':¬ es.toList.any (·.refKey)=true:=by rw[a];exact Am
   rw[if_neg a']
   exact congrArg some e
theorem ObjM.look {h:Heap}{x dx C:Addr}{mA:Str->Option Value}(I:ObjM h x dx C mA):∃od,PySem.W.InstAt h x (Cs C dx) C (some od)/\∀name,EJ name od=some (mA name) :=
 let ⟨od,ho,hl⟩:=a47 I.ns
 ⟨od,⟨I.obj,rfl,rfl,ho⟩,hl⟩
section
variable {prog:Program}{w:World}{A:Around}{E:Value->Shared->Prop}{s:Shared}{K:Ab}{x dx C f:Addr}{mA:Str->Option Value}{name:Str}{v:Value}
theorem a7q {expr:Bool}{Q:Value->Shared->Prop}(X:K.In s.heap) (I:ObjM s.heap x dx C mA) (hg:CW K C name=true) (hh:Dy K C=true)
   (ha:AA K (.ref C) name=some none) (hv:mA name=some v) (hv':Ip v=true) (h:Q v { s with toks:=s.toks+1 }) :
   wpAny (model prog w) A (getAttr (.ref x) name expr) Q E s:=by
 obtain⟨od,J,hl⟩:=I.look
 exact PySem.W.get_value X J (ED hg).1 (PySem.W.findObj_own hh ha rfl (by rw[hl,hv])) hv' h
theorem a5l {pl:Sem Bool}{Q:Value×List Value->Shared->Prop}(X:K.In s.heap) (I:ObjM s.heap x dx C mA) (hg:CW K C name=true)
   (hf:AA K (.ref C) name=some (some (.ref f))) (ht:Bx K (.ref f)=true) (hv:mA name=none) (h:Q (.ref f,[.ref x]) s) :
   wpAny (model prog w) A (getMethod (.ref x) name pl) Q E s:=by
 obtain⟨od,J,hl⟩:=I.look
 exact PySem.W.method_fn X J (ED hg).1 (ED hg).2 hf (beq_iff_eq.mp ht) (by show (EJ name od).map (·.isSome)=some false;rw[hl,hv];rfl) h
theorem a7l {ns:List Str}{Q:Unit->Shared->Prop}(X:K.In s.heap) (I:ObjM s.heap x dx C mA)
   (hs:AA K (.ref C) "__setattr__" = some (some (.builtin "object.__setattr__"))) (hp:Eh K C=true) (ht:FS K C name=some none) (hh:Dy K C=true)
   (hw:Hy mA ns) (hsz:ns.length<=sizeLine)
   (h:∀h',ObjM h' x dx C (fun y=>if y=name then some v else mA y)->Ck dx s.heap h'->Q () { s with heap:=h',toks:=s.toks+2 }) :
   wpAny (model prog w) A (setAttr (.ref x) name v) Q E s:=by
 obtain⟨od,J,hl⟩:=I.look
 refine PySem.W.set_plain X J hs (PySem.W.osa_open (s:={ s with toks:=s.toks+1 }) (r:=none) X J hp ht fun b=>?_)
 obtain⟨cd,hc,hd'⟩:=PySem.W.any_some hh
 have hx:s.heap.get? x=some ⟨.ref C,some dx,.plain,#[]⟩:=I.obj
 refine Aa (Ae (Aa (Aa (wpAny_loadPart hx (Aa (PySem.W.Looks.here (s:={ s with toks:=s.toks+1 }) (PySem.W.looks_clsIn X hc) ?_))))))
 rw[hd']
 refine Ae (a:=some dx) (Aa (Ae (Aa ?_)))
 refine wpAny_nsSet1 (s:={ s with toks:=s.toks+1 }) I.ns fun h' hn2 hs2=>?_
 obtain⟨oD,esD,epD,hoD,hdD,hcD⟩:=hn2.count (PySem.Within.cons name v hw)
 refine Aa (wpAny_lookBehind hoD (by rw[hdD];exact pastItsLine_dict (A0 hcD (by rw[AD];omega))) ?_)
 exact Ae (h _ ⟨(hs2.2 _ (Br I.ne)).trans I.obj,hn2,I.ne⟩ hs2)
theorem a5t {R:Result->Shared->Prop}{vs:List Value}{kw:List (Str×Value)}(X:K.In s.heap) (hm:E5 K C=true)
   (hi:AA K (.ref C) "__init__" = some (some (.ref f))) (hf:PySem.W.typeIn K (.ref f)=some (.type "function"))
   (h:codeAny (model prog w) (A.under (.builtin "type.__call__" ⟨.ref C::vs,kw⟩)) (.call (.ref f) ⟨.ref (s.heap.objs.size+1)::vs,kw⟩) (PySem.W.InitBack (s.heap.objs.size+1) R)
     { s with heap:=(s.heap.push BX).push (Cs C s.heap.objs.size) }) :
   codeAny (model prog w) A (.call (.ref C) ⟨vs,kw⟩) R s:=by
 obtain⟨hh,g,d,t,os⟩:=s
 exact PySem.W.make_core (PySem.W.makes_of X hm) (PySem.W.looks_findIn X hi) (fun self=>PySem.W.bind_fn X self hf) (.inl rfl) h
end
noncomputable def putF (f:Str) (v:V):List (Str×V)->List (Str×V)
 | []=>[(f,v)]
 | (g,x)::r=>if g=f then (g,v)::r else (g,x)::putF f v r
theorem am (f g:Str) (v:V):∀fs:List (Str×V),(putF f v fs).lookup g=if g=f then some v else fs.lookup g
 | []=>by
   show DN g [(f,v)]=_
   by_cases h:g=f
   . have hb:(g == f)=true:=beq_iff_eq.mpr h
     simp only[DN,hb,if_pos h]
   . have hb:(g == f)=false:=beq_eq_false_iff_ne.mpr h
     simp only[DN,hb,if_neg h]
 | (k,x)::r=>by
   have ih:=am f g v r
   rw[show putF f v ((k,x)::r)=(if k=f then (k,v)::r else (k,x)::putF f v r) from rfl]
   by_cases hk:k=f
   . rw[if_pos hk]
     by_cases h:g=k
     . have hb:(g == k)=true:=beq_iff_eq.mpr h
       simp only[DN,hb,if_pos (h.trans hk)]
     . have hb:(g == k)=false:=beq_eq_false_iff_ne.mpr h
       simp only[DN,hb,if_neg (fun e:g=f=>h (e.trans hk.symm))]
   . rw[if_neg hk]
     by_cases h:g=k
     . have hb:(g == k)=true:=beq_iff_eq.mpr h
       simp only[DN,hb,if_neg (fun e:g=f=>hk (h.symm.trans e))]
     . have hb:(g == k)=false:=beq_eq_false_iff_ne.mpr h
       simp only[DN,hb]
       exact ih
theorem li (f:Str) (v:V):∀fs:List (Str×V),f∈(putF f v fs).map (·.1)/\∀g,g∈fs.map (·.1)->g∈(putF f v fs).map (·.1)
 | []=>⟨by simp[putF],fun g h=>by simp at h⟩
 | (k,x)::r=>by
   obtain⟨i1,i2⟩:=li f v r
   rw[show putF f v ((k,x)::r)=(if k=f then (k,v)::r else (k,x)::putF f v r) from rfl]
   by_cases hk:k=f
   . rw[if_pos hk]
     subst hk
     exact⟨by simp,fun g h=>by simpa using h⟩
   . rw[if_neg hk]
     refine⟨?_,fun g h=>?_⟩
     . rw[AC]
       exact An _ i1
     . rw[AC] at h |-
       rcases Aq.mp h with e|e
       . exact Aq.mpr (.inl e)
       . exact An _ (i2 g e)
theorem bb (f:Str) (v:V):∀fs:List (Str×V),(putF f v fs).length<=fs.length+1
 | []=>by simp[putF]
 | (k,x)::r=>by
   have ih:=bb f v r
   rw[show putF f v ((k,x)::r)=(if k=f then (k,v)::r else (k,x)::putF f v r) from rfl]
   by_cases hk:k=f
   . rw[if_pos hk,AD,AD];omega
   . rw[if_neg hk,AD,AD];omega
theorem RelO.some_of {v:V}{o:Option Value}(r:RelO (some v) o):∃u,o=some u/\RelV v u:=by
 cases o with
 | none=>exact (show False from r).elim
 | some u=>exact⟨u,rfl,r⟩
theorem RelO.none_of {o:Option Value}(r:RelO none o):o=none:=by
 cases o with
 | none=>rfl
 | some u=>exact (show False from r).elim
theorem a3t {v:V}{u:Value}(r:RelV v u):Ip u=true:=by
 cases v with
 | non=>cases (show u=Value.none from r);rfl
 | bl b=>cases (show u=Value.bool b from r);rfl
 | int i=>obtain⟨t,e⟩:=(show ∃t,u=Value.int i t from r);cases e;rfl
 | str x=>obtain⟨t,e⟩:=(show ∃t,u=Value.str x t from r);cases e;rfl
 | byt b=>obtain⟨t,e⟩:=(show ∃t,u=Value.bytes b t from r);cases e;rfl
 | flt b=>obtain⟨t,e⟩:=(show ∃t,u=Value.float b t from r);cases e;rfl
 | ref a=>cases (show u=Value.ref a from r);rfl
 | ty n=>cases (show u=Value.type n from r);rfl
section
variable {P:Program}{w:World}{H H':Hp}{h h':Heap}{a C dx:Addr}{fs fs':List (Str×V)}
theorem sn (hok:HOk P w H h) (e:H a=some (.ins C dx fs)):∃mA,ObjM h a dx C mA/\(∀f,RelO (fs.lookup f) (mA f))/\Hy mA (fs.map (·.1))/\fs.length<=1000/\H dx=some (.own a):=by
 obtain⟨d,z,ne,ob,mA,n,r,q⟩:=(show ObjOk P w H h a (.ins C dx fs) from hok a _ e)
 exact⟨mA,⟨ob,n,ne⟩,r,q,z,d⟩
end
structure Cls (K:Ab) (C:Addr):Prop where
 pg:CW K C IS=true
 hd:Dy K C=true
 po:Eh K C=true
 sa:AA K (.ref C) "__setattr__" = some (some (.builtin "object.__setattr__"))
theorem Cls.get {K:Ab}{C:Addr}(c:Cls K C) (f:Str):CW K C f=true:=c.pg
noncomputable def NoAttr (K:Ab) (C:Addr) (f:Str):Prop:=AA K (.ref C) f=some none
theorem NoAttr.taker {K:Ab}{C:Addr}{f:Str}(n:NoAttr K C f):FS K C f=some none:=by
 unfold FS
 rw[show AA K (.ref C) f=some none from n]
 rfl
structure Con (K:Ab) (C:Addr) (f:Str) (v:V) (u:Value):Prop where
 at_:AA K (.ref C) f=some (some u)
 rel:RelV v u
 get:PySem.W.specialIn K u "__get__" = some none
 cp:PySem.W.copiedNames.contains f=false
structure Meth (K:Ab) (C:Addr) (m:Str) (f:Addr):Prop where
 at_:AA K (.ref C) m=some (some (.ref f))
 fn:Bx K (.ref f)=true
 kp:Cq K (.ref f)=true
section
variable {X:Cx}{pins:List (Addr×Obj)}{σ:St}{H:Hp}{s:Shared}{a C dx:Addr}{fs:List (Str×V)}{f:Str}{v:V}{A:Around}{E:Value->Shared->Prop}
theorem a0u {b:Bool}{Q:Value->Shared->Prop}(I:Inv X pins σ H s) (e:H a=some (.ins C dx fs)) (c:Cls X.K C) (n:NoAttr X.K C f) (l:fs.lookup f=some v)
   (h:∀u s',Inv X pins σ H s'->RelV v u->Q u s'):wpAny (model X.prog X.w) A (getAttr (.ref a) f b) Q E s:=by
 obtain⟨mA,O,r,_,_,_⟩:=sn I.hok e
 obtain⟨u,hu,ru⟩:=RelO.some_of (v:=v) (o:=mA f) (by rw[<- l];exact r f)
 exact a7q I.kIn O (c.get f) c.hd n hu (a3t ru) (h u _ (I.tok _) ru)
theorem qw {m:Str}{g:Addr}{pl:Sem Bool}{Q:Value×List Value->Shared->Prop}(I:Inv X pins σ H s) (e:H a=some (.ins C dx fs)) (c:Cls X.K C) (k:Meth X.K C m g) (l:fs.lookup m=none)
   (h:Q (.ref g,[.ref a]) s):wpAny (model X.prog X.w) A (getMethod (.ref a) m pl) Q E s:=by
 obtain⟨mA,O,r,_,_,_⟩:=sn I.hok e
 have hn:mA m=none:=RelO.none_of (by rw[<- l];exact r m)
 exact a5l I.kIn O (c.get m) k.at_ k.fn hn h
theorem a0w {y:V}{u:Value}{Q:Unit->Shared->Prop}(I:Inv X pins σ H s) (e:H a=some (.ins C dx fs)) (c:Cls X.K C) (n:NoAttr X.K C f) (hl:fs.length<1000) (ry:RelV y u)
   (h:∀s',Inv X pins σ (upd H a (.ins C dx (putF f y fs))) s'->Q () s'):wpAny (model X.prog X.w) A (setAttr (.ref a) f u) Q E s:=by
 obtain⟨mA,O,r,wi,_,ho⟩:=sn I.hok e
 have hz:(fs.map (·.1)).length<=sizeLine:=by rw[Ad,Ga];omega
 refine a7l I.kIn O c.sa c.po n.taker c.hd wi hz fun h' O' sb=>h _ ?_
 have hd:∃o,h'.get? dx=some o:=let ⟨o,_,_,e',_⟩:=O'.ns;⟨o,e'⟩
 refine I.write (x:=a) (e:=dx) (by rw[e];exact True.intro) (.inr ho) (fun b q hb z=>(sb.2 b hb).trans z) hd ?_
 refine⟨by rw[ae O.ne];exact ho,?_,O.ne,O'.obj,_,O'.ns,fun g=>?_,fun g hg=>?_⟩
 . have:=bb f y fs;omega
 . show RelO ((putF f y fs).lookup g) (if g=f then some u else mA g)
   rw[am]
   by_cases q:g=f
   . rw[if_pos q,if_pos q];exact ry
   . rw[if_neg q,if_neg q];exact r g
 . by_cases q:g=f
   . rw[q];exact (li f y fs).1
   . refine (li f y fs).2 g (wi g fun z=>hg ?_)
     show (if g=f then some u else mA g)=none
     rw[if_neg q];exact z
theorem Inv.made (I:Inv X pins σ H s):Inv X pins σ (upd (upd H s.heap.objs.size (.own (s.heap.objs.size+1))) (s.heap.objs.size+1) (.ins C s.heap.objs.size []))
   { s with heap:=(s.heap.push BX).push (Cs C s.heap.objs.size) }:=by
 have e1:(s.heap.push BX).get? s.heap.objs.size=some BX:=Ak s.heap rfl
 have e2:((s.heap.push BX).push (Cs C s.heap.objs.size)).get? (s.heap.objs.size+1)=some (Cs C s.heap.objs.size):=by
   have:=Ak (s.heap.push BX) (o:=Cs C s.heap.objs.size) rfl
   rwa [Bh] at this
 have e3:(s.heap.push BX).Ns s.heap.objs.size (fun _=>none):=⟨BX,#[],_,e1,rfl,(fun e he=>absurd he (by simp)),fun _=>rfl⟩
 have I1:=I.laid (a:=s.heap.objs.size) (o:=.own (s.heap.objs.size+1)) (h':=s.heap.push BX) (t':=s.toks) (fun b u q=>Ac _ q) (Aj _) ⟨_,e1⟩
 refine I1.laid (a:=s.heap.objs.size+1) (o:=.ins C s.heap.objs.size []) (t':=s.toks) (fun b u q=>Ac _ q) (HB (Bh _ _)) ?_
 have ne:s.heap.objs.size≠s.heap.objs.size+1:=Aw (Ce _)
 refine⟨by rw[ae ne,aa],A8 _,ne,e2,fun _=>none,(Heap.Ns1.of_empty e3).at fun o q=>Ac _ q,fun _=>True.intro,fun y hy=>absurd rfl hy⟩
theorem a8s {prog:Program}{w:World}{env:Env}{e:Expr}{f:Str}{pos:Pos}{s:Shared}{Q:Value->Shared->Prop}(hb:attributeBase e f env (eval e env)=eval e env)
   (h:wpAny (model prog w) A (eval e env) (fun o s₁=>wpAny (model prog w) A (getAttr o f true) Q E s₁) E s):wpAny (model prog w) A (eval (.Attribute e f pos) env) Q E s :=
 Attribute_any_ h (by rw[arm_eval_Attribute,hb])
end
noncomputable def tFld (K:Ab) (ta:TE) (f:Str):TE:=fun σ H Q=>ta σ H fun x H1=>∃a C dx fs v,x=.ref a/\H1 a=some (.ins C dx fs)/\Cls K C/\NoAttr K C f/\fs.lookup f=some v/\Q v H1
noncomputable def sFld (K:Ab) (ta tv:TE) (f:Str):TS:=fun D σ H=>tv σ H fun y H1=>ta σ H1 fun x H2=>∃a C dx fs,x=.ref a/\H2 a=some (.ins C dx fs)/\Cls K C/\NoAttr K C f/\fs.length<1000/\
 D.nx σ (upd H2 a (.ins C dx (putF f y fs)))
section
variable {X:Cx}{o e value:Expr}{f:Str}{pos pos' tpos:Pos}{ta tv:TE}
theorem aa2 (he:PE X e ta) (hb:attributeBase e f X.env (eval e X.env)=eval e X.env):PE X (.Attribute e f pos) (tFld X.K ta f):=by
 intro pins s σ H Q I h
 refine a8s hb (thn (he pins s σ H _ I h) fun u s1 ⟨x,H1,I1,rx,a,C,dx,fs,v,ex,ea,c,n,l,q⟩=>?_)
 subst ex
 obtain rfl:u=Value.ref a:=rx
 exact a0u I1 ea c n l fun u' s2 I2 ru=>⟨v,H1,I2,ru,q⟩
theorem aaa (ha:PE X o ta) (hv:PE X value tv) (hs:swapsWith value (some (.Attribute o f pos')) pos.line X.env=pure false):PS X (.Assign [.Attribute o f pos'] value pos) (sFld X.K ta tv f):=by
 intro pins s σ H D I h
 refine plainObj_wpAny_Assign_Attribute (thn (hv pins s σ H _ I h) fun u s1 ⟨y,H1,I1,ry,q⟩=>thn (ha pins s1 σ H1 _ I1 q) fun ov s2 ⟨x,H2,I2,rx,a,C,dx,fs,ex,ea,c,n,l,q2⟩=>?_) hs
 subst ex
 obtain rfl:ov=Value.ref a:=rx
 exact a0w I2 ea c n l ry fun s3 I3=>⟨σ,_,I3,q2⟩
end
section
variable {X:Cx}{pins:List (Addr×Obj)}{σ:St}{H:Hp}{s:Shared}{A:Around}{E:Value->Shared->Prop}{Q:Value->Shared->Prop}{c:Value}{b:Bool}
end
structure Room (k:Nat) (A:Around):Prop where
 hd:A.handled=none
 dp:A.depth+3*k+5<recursionLimit
 un:A.units+16*k+200<cLine
theorem Room.mono {j k:Nat}{A:Around}(r:Room k A) (h:j<=k):Room j A:=⟨r.hd,by have:=r.dp;omega,by have:=r.un;omega⟩
theorem Room.deeper {k:Nat}{A:Around}(r:Room (k+1) A) (env:Env):Room k (A.deeper env) :=
 ⟨r.hd,by have:=r.dp;show A.depth+1+3*k+5<_;omega,by have:=r.un;show A.units+3+16*k+200<_;omega⟩
theorem a0m {A:Around}{C:Addr}{us:List Value}{kw:List (Str×Value)}:(A.under (.builtin "type.__call__" ⟨.ref C::us,kw⟩)).depth=A.depth+1:=by
 first|rfl|simp[HC,Code.weight,Code.isCreation,Code.isGuard,Code.isCaller,Jh,HD,guardIds]
theorem a1b {A:Around}{C:Addr}{us:List Value}{kw:List (Str×Value)}:(A.under (.builtin "type.__call__" ⟨.ref C::us,kw⟩)).units=A.units+1:=by
 first|rfl|simp[HC,Code.cUnits,Jh,HD]
theorem Room.make {k:Nat}{A:Around}(r:Room (k+1) A) (C:Addr) (us:List Value) (kw:List (Str×Value)):Room k (A.under (.builtin "type.__call__" ⟨.ref C::us,kw⟩)) :=
 ⟨r.hd,by have:=r.dp;rw[a0m];omega,by have:=r.un;rw[a1b];omega⟩
theorem Room.depth {k:Nat}{A:Around}(r:Room k A):A.depth<recursionLimit:=by have:=r.dp;omega
theorem Room.units {k:Nat}{A:Around}(r:Room k A):A.units+64<cLine:=by have:=r.un;omega
noncomputable def tNil:TA:=fun _ H Q=>Q [] H
noncomputable def cu (ta:TE) (tr:TA):TA:=fun σ H Q=>ta σ H fun x H1=>tr σ H1 fun xs H2=>Q (x::xs) H2
section
variable {X:Cx}{e:Expr}{es:List Expr}{te:TE}{t:TA}{pos:Pos}
theorem i9:PA X [] tNil:=fun _ _ _ _ H Q I h=>Ei ⟨[],H,I,.nil,h⟩
theorem ci (ha:PE X e te) (hr:PA X es t) (hs:starEach (e::es) X.env=(false,eval e X.env)::starEach es X.env:=by rfl):PA X (e::es) (cu te t):=by
 intro pos pins s σ H Q I h
 rw[hs]
 show wpAny _ _ (spliced ((false,eval e X.env)::backTo pos (starEach es X.env))) _ _ s
 refine Dn (thn (ha pins s σ H _ I h) fun u s1 ⟨x,H1,I1,r1,q1⟩=>?_)
 exact thn (hr pos pins s1 σ H1 _ I1 q1) fun us s2 ⟨xs,H2,I2,r2,q2⟩=>⟨x::xs,H2,I2,.cons r1 r2,q2⟩
noncomputable def tTup (t:TA):TE:=fun σ H Q=>t σ H fun xs H1=>xs.length<=sizeLine/\∀p,H1 p=none->Q (.ref p) (upd H1 p (.tup xs))
noncomputable def tLst (t:TA):TE:=fun σ H Q=>t σ H fun xs H1=>xs.length<=sizeLine/\∀p,H1 p=none->Q (.ref p) (upd H1 p (.lst xs))
theorem a1t {x1} (h:PA X es t):PE X (.Tuple es x1 pos) (tTup t):=by
 intro pins s σ H Q I hq
 refine wpAny_Tuple_spliced (thn (h pos pins s σ H _ I hq) fun us s1 ⟨xs,H1,I1,r,z,q⟩=>⟨by rw[<- r.length];exact z,?_⟩)
 have hf:H1 s1.heap.objs.size=none:=I1.hok.fresh (Aj _)
 refine⟨.ref s1.heap.objs.size,upd H1 s1.heap.objs.size (.tup xs),I1.laid (t':=s1.toks) (fun b u e=>Ac _ e) (Aj _) ?_,rfl,q _ hf⟩
 exact⟨z,us,r,⟨_,Ak _ rfl,rfl,_,rfl⟩⟩
theorem xg (h:PA X es t):PE X (.List es pos) (tLst t):=by
 intro pins s σ H Q I hq
 refine wpAny_List_spliced (thn (h pos pins s σ H _ I hq) fun us s1 ⟨xs,H1,I1,r,z,q⟩=>⟨by rw[<- r.length];exact z,?_⟩)
 have hf:H1 s1.heap.objs.size=none:=I1.hok.fresh (Aj _)
 refine⟨.ref s1.heap.objs.size,upd H1 s1.heap.objs.size (.lst xs),I1.laid (t':=s1.toks) (fun b u e=>Ac _ e) (Aj _) ?_,rfl,q _ hf⟩
 exact⟨z,us,0,r,Ak _ rfl⟩
end
abbrev Sp:=List V->Hp->VK->XK->Prop
abbrev CXT:=List Env->Hp->Shared->XK->Value->Shared->Prop
structure Env0 (P:Program) (w:World) (K:Ab) (mg:Str->Option Value) (base:Heap) (A:Around) (outer:List Env) (s:Shared) (H:Hp):Prop where
 frames:A.frames=some outer
 mod:Mod K mg base
 bs:∀b o,base.get? b=some o->s.heap.get? b=some o/\H b=none
 bsz:base.objs.size<=s.heap.objs.size
 funs:s.heap.FunFrames base outer
 frf:∀b∈frs outer,H b=none
 hok:HOk P w H s.heap
 bare:AllBare s.gens
noncomputable def CE (outer:List Env) (P:Program) (w:World) (H:Hp) (s:Shared) (Q:VK) (u:Value) (s':Shared):Prop :=
 ∃v H',s'.os=s.os/\AllBare s'.gens/\Un (frs outer) [] H H' s.heap s'.heap/\HOk P w H' s'.heap/\RelV v u/\Q v H'
noncomputable def CR (CX:CXT) (outer:List Env) (P:Program) (w:World) (H:Hp) (s:Shared) (Q:VK) (E:XK) (r:Result) (s':Shared):Prop :=
 match r with
 | .ok (.ret u)=>CE outer P w H s Q u s'
 | .ok _=>False
 | .error e=>CX outer H s E e s'
structure FnOk (P:Program) (w:World) (K:Ab) (mg:Str->Option Value) (base:Heap) (CX:CXT) (k:Nat) (f:Addr) (fd:FuncData) (ps:List Str) (sp:Sp):Prop where
 len:∀vs H Q E,sp vs H Q E->vs.length=ps.length
 run:∀(A:Around) (outer:List Env) (s:Shared) (H:Hp) (args:Args) (us:List Value) (vs:List V) (Q:VK) (E:XK),Room k A->Env0 P w K mg base A outer s H->BindsTo s fd args (ps.zip us)->Vals vs us->sp vs H Q E->
   codeAny (model P w) A (.call (.ref f) args) (CR CX outer P w H s Q E) s
theorem FnOk.mono {P:Program}{w:World}{K:Ab}{mg:Str->Option Value}{base:Heap}{CX:CXT}{j k:Nat}{f:Addr}{fd:FuncData}{ps:List Str}{sp:Sp}(F:FnOk P w K mg base CX j f fd ps sp) (h:j<=k) :
   FnOk P w K mg base CX k f fd ps sp:=⟨F.len,fun A outer s H args us vs Q E hr=>F.run A outer s H args us vs Q E (hr.mono h)⟩
theorem Env0.make {P:Program}{w:World}{K:Ab}{mg:Str->Option Value}{base:Heap}{A:Around}{outer:List Env}{s:Shared}{H:Hp}(e:Env0 P w K mg base A outer s H) (C:Addr) (us:List Value) (kw:List (Str×Value)) :
   Env0 P w K mg base (A.under (.builtin "type.__call__" ⟨.ref C::us,kw⟩)) outer s H:=⟨by first|exact e.frames|(simpa [HC,Code.envs,HD,pushEnvs] using e.frames),e.mod,e.bs,e.bsz,e.funs,e.frf,e.hok,e.bare⟩
section
variable {X:Cx}{pins:List (Addr×Obj)}{σ:St}{H:Hp}{s s':Shared}
theorem Inv.env0 (I:Inv X pins σ H s):Env0 X.prog X.w X.K X.mg X.base X.A X.stack s H :=
 ⟨I.ok.frames,I.ok.mod,I.bs,A0 I.ok.bsz I.sz,I.stack,I.stkFree,I.hok,I.bare⟩
theorem Inv.after {Q:VK}{u:Value}(I:Inv X pins σ H s) (h:CE X.stack X.prog X.w H s Q u s'):EP X pins σ Q u s':=by
 obtain⟨v,H',os,bare,un,hok,r,q⟩:=h
 obtain⟨hh,g,d,t,os'⟩:=s'
 obtain rfl:os'=s.os:=os
 exact⟨v,H',I.call (h':=hh) (g':=g) (d':=d) (t':=t) (ch:=[]) un hok bare (fun b z=>absurd z (by simp)),r,q⟩
end
noncomputable def a74 (sp:Sp) (dvs:List V) (E:XK) (t:TA):TE:=fun σ H Q=>t σ H fun vs H1=>sp (vs++dvs) H1 Q E
noncomputable def ur (C:Addr) (m:Str) (sp:Sp) (dvs:List V) (E:XK) (ta:TE) (t:TA):TE:=fun σ H Q=>ta σ H fun x H1=>∃a dx fs,x=.ref a/\H1 a=some (.ins C dx fs)/\fs.lookup m=none/\
 t σ H1 fun vs H2=>sp (x::(vs++dvs)) H2 Q E
noncomputable def a7d (C:Addr) (sp:Sp) (dvs:List V) (E:XK) (t:TA):TE:=fun σ H Q=>t σ H fun vs H1=>∀x dx,H1 x=none->H1 dx=none->dx≠x->
 sp (.ref x::(vs++dvs)) (upd (upd H1 dx (.own x)) x (.ins C dx [])) (fun v H2=>v=.non/\Q (.ref x) H2) E
noncomputable def Binds (K:Ab) (fd:FuncData) (ps:List Str) (ds:List Value):Prop :=
 ∀(s:Shared) (us:List Value),K.In s.heap->(us++ds).length=ps.length->BindsTo s fd ⟨us,[]⟩ (ps.zip (us++ds))
theorem Binds.all {K:Ab}{fd:FuncData}{ps:List Str}(h:∀us:List Value,us.length=ps.length->bindArgs fd ⟨us,[]⟩=pure (ps.zip us)):Binds K fd ps []:=fun s us _ hl=>by
 rw[BP] at hl |-
 exact .of_eq (h us hl)
noncomputable def fg (CX:CXT) (X:Cx) (E:XK):Prop:=∀(pins:List (Addr×Obj)) (σ:St) (H:Hp) (s:Shared) (e:Value) (s':Shared),Inv X pins σ H s->CX X.stack H s E e s'->X.xe e s'
section
variable {X:Cx}{CX:CXT}{k:Nat}{f C:Addr}{fd:FuncData}{ps:List Str}{sp:Sp}{dvs:List V}{ds:List Value}{E:XK}{x m:Str}{p pos apos:Pos}{e o:Expr}{es:List Expr}{ta:TE}{t:TA}
theorem vf {pins:List (Addr×Obj)}{σ:St}{H:Hp}{s:Shared}{Q:VK}{us:List Value}{vs:List V}(F:FnOk X.prog X.w X.K X.mg X.base CX k f fd ps sp) (hr:Room k X.A) (hb:Binds X.K fd ps ds) (hd:Vals dvs ds) (hx:fg CX X E)
   (I:Inv X pins σ H s) (r:Vals vs us) (h:sp (vs++dvs) H Q E):wpAny (model X.prog X.w) X.A (call (.ref f) us) (EP X pins σ Q) X.xe s:=by
 have r2:Vals (vs++dvs) (us++ds):=r.append hd
 have hl:(us++ds).length=ps.length:=by rw[<- r2.length];exact F.len _ _ _ _ h
 refine Hg (DB (F.run X.A X.stack s H ⟨us,[]⟩ (us++ds) (vs++dvs) Q E hr I.env0 (hb s us I.kIn hl) r2 h) fun r s' hq=>?_)
 cases r with
 | error e=>exact hx pins σ H s e s' I hq
 | ok fl =>
   cases fl with
   | ret u=>exact I.after hq
   | next=>exact Cm hq
   | brk=>exact Cm hq
   | cont=>exact Cm hq
theorem a7h (F:FnOk X.prog X.w X.K X.mg X.base CX k f fd ps sp) (hr:Room k X.A) (hg:Gl X x) (hm:X.mg x=some (.ref f)) (hk:Cq X.K (.ref f)=true) (hb:Binds X.K fd ps ds) (hd:Vals dvs ds) (hx:fg CX X E)
   (ha:PA X (e::es) t) (hdb:(x == ("__debug__" : Str))=false:=by decide) (he:starEach (e::es) X.env=(false,eval e X.env)::starEach es X.env:=by rfl) (hpl:(backTo pos (starEach es X.env)).any (·.1)=false:=by rfl) :
   PE X (.Call (.Name x p) (e::es) [] pos) (a74 sp dvs E t):=by
 intro pins s σ H Q I h
 refine Do (rk I hg hm ?_ hdb)
 refine EW (h₀:=X.base) I.ok.mod.kin hk (thn (ha pos pins s σ H _ I h) fun us s1 ⟨vs,H1,I1,r,q⟩=>⟨I1.kIn,?_⟩) he hpl
 exact vf F hr hb hd hx I1 r q
theorem a92 {pl:Sem Bool}(he:PE X o ta) (c:Cls X.K C) (hm:Meth X.K C m f) (F:FnOk X.prog X.w X.K X.mg X.base CX k f fd ps sp) (hr:Room k X.A) (hb:Binds X.K fd ps ds) (hd:Vals dvs ds) (hx:fg CX X E) (ha:PA X (e::es) t)
   (hst:starEach (e::es) X.env=(false,eval e X.env)::starEach es X.env:=by rfl) (hpl:(backTo pos (starEach es X.env)).any (·.1)=false:=by rfl)
   (ht:eval (.Call (.Attribute o m apos) (e::es) [] pos) X.env=(do
     let ov<-eval o X.env
     standAt apos.atName
     let (f,first)<-holding [ov] (getMethod ov m pl)
     callWith pos f first (backTo pos (starEach (e::es) X.env)) (backToKw pos (keywordEach [] X.env))):=by rfl) :
   PE X (.Call (.Attribute o m apos) (e::es) [] pos) (ur C m sp dvs E ta t):=by
 intro pins s σ H Q I h
 refine Gq (pl:=pl) (thn (he pins s σ H _ I h) fun u s1 ⟨x,H1,I1,rx,a,dx,fs,ex,ea,l,q⟩=>?_) ht
 subst ex
 obtain rfl:u=Value.ref a:=rx
 refine qw I1 ea c hm l ?_
 refine EW (first:=[.ref a]) (h₀:=X.base) I.ok.mod.kin hm.kp (thn (ha pos pins s1 σ H1 _ I1 q) fun us s2 ⟨vs,H2,I2,r,q2⟩=>⟨I2.kIn,?_⟩) hst hpl
 exact vf (us:=.ref a::us) (vs:=.ref a::vs) F hr hb hd hx I2 (.cons rfl r) q2
theorem a5f {pl:Sem Bool}(he:PE X o ta) (c:Cls X.K C) (hm:Meth X.K C m f) (F:FnOk X.prog X.w X.K X.mg X.base CX k f fd ps sp) (hr:Room k X.A) (hb:Binds X.K fd ps ds) (hd:Vals dvs ds) (hx:fg CX X E)
   (ht:eval (.Call (.Attribute o m apos) [] [] pos) X.env=(do
     let ov<-eval o X.env
     standAt apos.atName
     let (f,first)<-holding [ov] (getMethod ov m pl)
     callWith pos f first (backTo pos (starEach [] X.env)) (backToKw pos (keywordEach [] X.env))):=by rfl) :
   PE X (.Call (.Attribute o m apos) [] [] pos) (ur C m sp dvs E ta tNil):=by
 intro pins s σ H Q I h
 refine Gq (pl:=pl) (thn (he pins s σ H _ I h) fun u s1 ⟨x,H1,I1,rx,a,dx,fs,ex,ea,l,q⟩=>?_) ht
 subst ex
 obtain rfl:u=Value.ref a:=rx
 refine qw I1 ea c hm l ?_
 exact PySem.W.callWith_K0 (first:=[.ref a]) I1.kIn hm.kp (vf (us:=[.ref a]) (vs:=[.ref a]) F hr hb hd hx I1 (.cons rfl .nil) q)
structure Mk (K:Ab) (C f:Addr):Prop where
 makes:E5 K C=true
 init:AA K (.ref C) "__init__" = some (some (.ref f))
 fn:Bx K (.ref f)=true
 kp:Cq K (.ref C)=true
theorem a5m {pins:List (Addr×Obj)}{σ:St}{H:Hp}{s:Shared}{Q:VK}{us:List Value}{vs:List V}(M:Mk X.K C f) (F:FnOk X.prog X.w X.K X.mg X.base CX k f fd ps sp) (hr:Room (k+1) X.A) (hb:Binds X.K fd ps ds) (hd:Vals dvs ds)
   (hx:fg CX X E) (I:Inv X pins σ H s) (r:Vals vs us)
   (h:∀x dx,H x=none->H dx=none->dx≠x->sp (.ref x::(vs++dvs)) (upd (upd H dx (.own x)) x (.ins C dx [])) (fun v H2=>v=.non/\Q (.ref x) H2) E) :
   wpAny (model X.prog X.w) X.A (call (.ref C) us) (EP X pins σ Q) X.xe s:=by
 have hq:=h (s.heap.objs.size+1) s.heap.objs.size (I.hok.fresh (Du _)) (I.hok.fresh (Aj _)) (Aw (Ce _))
 have I2:=Inv.made (C:=C) I
 have r2:Vals (V.ref (s.heap.objs.size+1)::(vs++dvs)) (Value.ref (s.heap.objs.size+1)::(us++ds)):=.cons rfl (r.append hd)
 have hl:(Value.ref (s.heap.objs.size+1)::us++ds).length=ps.length:=by
   have e:=r2.length
   rw[F.len _ _ _ _ hq] at e
   exact e.symm
 refine Hg (a5t (f:=f) I.kIn M.makes M.init (beq_iff_eq.mp M.fn) (DB (F.run _ X.stack _ _ ⟨Value.ref (s.heap.objs.size+1)::us,[]⟩ (Value.ref (s.heap.objs.size+1)::(us++ds)) _ _ E (hr.make C us [])
   (I2.env0.make C us []) (hb _ (Value.ref (s.heap.objs.size+1)::us) I2.kIn hl) r2 hq) fun r s' hq'=>?_))
 cases r with
 | error e=>exact hx pins σ _ _ e s' I2 hq'
 | ok fl =>
   cases fl with
   | ret u =>
     obtain⟨v,H',I3,rv,ev,q3⟩:=I2.after hq'
     subst ev
     exact⟨rv,⟨V.ref (s.heap.objs.size+1),H',I3,rfl,q3⟩⟩
   | next=>exact Cm hq'
   | brk=>exact Cm hq'
   | cont=>exact Cm hq'
theorem a97 (M:Mk X.K C f) (F:FnOk X.prog X.w X.K X.mg X.base CX k f fd ps sp) (hr:Room (k+1) X.A) (hg:Gl X x) (hm:X.mg x=some (.ref C)) (hb:Binds X.K fd ps ds) (hd:Vals dvs ds) (hx:fg CX X E)
   (ha:PA X (e::es) t) (hdb:(x == ("__debug__" : Str))=false:=by decide) (he:starEach (e::es) X.env=(false,eval e X.env)::starEach es X.env:=by rfl) (hpl:(backTo pos (starEach es X.env)).any (·.1)=false:=by rfl) :
   PE X (.Call (.Name x p) (e::es) [] pos) (a7d C sp dvs E t):=by
 intro pins s σ H Q I h
 refine Do (rk I hg hm ?_ hdb)
 refine EW (h₀:=X.base) I.ok.mod.kin M.kp (thn (ha pos pins s σ H _ I h) fun us s1 ⟨vs,H1,I1,r,q⟩=>⟨I1.kIn,?_⟩) he hpl
 exact a5m M F hr hb hd hx I1 r q
end
noncomputable def PK (X:Cx) (kws:List Keyword) (t:TA):Prop :=
 ∀(pos:Pos) (pins:List (Addr×Obj)) (s:Shared) (σ:St) (H:Hp) (Q:List V->Hp->Prop),Inv X pins σ H s->t σ H Q->wpAny (model X.prog X.w) X.A (evalAll ((backToKw pos (keywordEach kws X.env)).map (·.2))) (AP X pins σ Q) X.xe s
section
variable {X:Cx}{CX:CXT}{k:Nat}{f C:Addr}{fd:FuncData}{ps ks:List Str}{sp:Sp}{E:XK}{x m:Str}{p pos apos kpos:Pos}{e o:Expr}{es:List Expr}{kws:List Keyword}{te ta:TE}{t tk:TA}{nm:Option Str}
theorem aa3:PK X [] tNil:=fun _ _ _ _ H Q I h=>wpAny_evalAll_nil ⟨[],H,I,.nil,h⟩
theorem a81 (ha:PE X e te) (hr:PK X kws t):PK X (⟨nm,e,kpos⟩::kws) (cu te t):=by
 intro pos pins s σ H Q I h
 show wpAny _ _ (evalAll ((do let v<-eval e X.env;standAt pos;pure v)::(backToKw pos (keywordEach kws X.env)).map (·.2))) _ _ s
 refine wpAny_evalAll_cons (Aa (thn (ha pins s σ H _ I h) fun u s1 ⟨x,H1,I1,r1,q1⟩=>Aa (Eo (Ae ?_))))
 exact thn (hr pos pins s1 σ H1 _ I1 q1) fun us s2 ⟨xs,H2,I2,r2,q2⟩=>⟨x::xs,H2,I2,.cons r1 r2,q2⟩
variable {g:List Value->List Value->List Value}{gV:List V->List V->List V}
end
structure FnScope (N P:List Str) (sc:Scope):Prop where
 kind:sc.kind=.function
 co:sc.isCoroutine=false
 gen:sc.isGenerator=false
 nd:N.Nodup
 pre:N.take P.length=P
 par:∀x∈P,sc.names.lookup x=some .local\/sc.names.lookup x=some .cell
 nofree:∀y∈sc.names,y.2≠.free
theorem tm {kindOf:Str->Option NameKind}{x:Str}:∀{binds:List (Str×Value)}{m:Str->Option Value},(∀v,(x,v)∉binds)->bindL kindOf binds m x=m x
 | [],_,_=>rfl
 | (n,v)::r,m,h=>by
   unfold bindL
   rw[tm fun w hw=>h w (An _ hw)]
   split
   . have:x≠n:=by rintro rfl;exact h v Ah
     simp[this]
   . rfl
theorem u9 {kindOf:Str->Option NameKind}{x:Str}:∀{binds:List (Str×Value)}{m:Str->Option Value},(∀v,(x,v)∉binds)->bindC kindOf binds m x=m x
 | [],_,_=>rfl
 | (n,v)::r,m,h=>by
   unfold bindC
   rw[u9 fun w hw=>h w (An _ hw)]
   split
   . rfl
   . have:x≠n:=by rintro rfl;exact h v Ah
     simp[this]
theorem ud {kindOf:Str->Option NameKind}{x:Str}{v:Value}:∀{P:List Str}{vs:List Value}{i:Nat}{m:Str->Option Value},P.Nodup->P[i]? = some x->vs[i]? = some v->kindOf x=some .local->
   bindL kindOf (P.zip vs) m x=some v
 | [],_,_,_,_,h,_,_=>by simp at h
 | _::_,[],_,_,_,_,h,_=>by simp at h
 | p::P,w::vs,0,m,nd,h1,h2,hk=>by
   simp at h1 h2;subst h1;subst h2
   show bindL kindOf ((p,w)::P.zip vs) m p=_
   unfold bindL
   rw[tm fun v hv=>(AX.mp nd).1 (E6 hv).1,if_pos hk]
   simp
 | p::P,w::vs,i+1,m,nd,h1,h2,hk=>by
   show bindL kindOf ((p,w)::P.zip vs) m x=_
   unfold bindL
   exact ud (i:=i) (AX.mp nd).2 (by simpa using h1) (by simpa using h2) hk
theorem tz {kindOf:Str->Option NameKind}{x:Str}{v:Value}:∀{P:List Str}{vs:List Value}{i:Nat}{m:Str->Option Value},P.Nodup->P[i]? = some x->vs[i]? = some v->kindOf x≠some .local->
   bindC kindOf (P.zip vs) m x=some v
 | [],_,_,_,_,h,_,_=>by simp at h
 | _::_,[],_,_,_,_,h,_=>by simp at h
 | p::P,w::vs,0,m,nd,h1,h2,hk=>by
   simp at h1 h2;subst h1;subst h2
   show bindC kindOf ((p,w)::P.zip vs) m p=_
   unfold bindC
   rw[u9 fun v hv=>(AX.mp nd).1 (E6 hv).1,if_neg hk]
   simp
 | p::P,w::vs,i+1,m,nd,h1,h2,hk=>by
   show bindC kindOf ((p,w)::P.zip vs) m x=_
   unfold bindC
   exact tz (i:=i) (AX.mp nd).2 (by simpa using h1) (by simpa using h2) hk
noncomputable def ii (N:List Str) (vs:List V):St:=vs.map some++List.replicate (N.length - vs.length) none
noncomputable def cxOf (CX:CXT) (P:Program) (w:World) (K:Ab) (mg:Str->Option Value) (base:Heap) (N:List Str) (qual:Str) (scope:Scope) (f:Addr) (cd:Value) (A:Around) (outer:List Env) (s:Shared) (H:Hp) (E:XK):Cx where
 prog:=P
 w:=w
 K:=K
 mg:=mg
 base:=base
 A:=A.deeper (envOfC qual scope s.heap.objs.size f cd)
 N:=N
 s₀:=s
 H₀:=H
 env:=envOfC qual scope s.heap.objs.size f cd
 outer:=outer
 stack:=envOfC qual scope s.heap.objs.size f cd::outer
 ex:=[]
 calm:=true
 fn:=fun _=>true
 pn:=[]
 xe:=fun e s'=>wpAny (model P w) (A.deeper (envOfC qual scope s.heap.objs.size f cd)) (leaving (envOfC qual scope s.heap.objs.size f cd) e) (fun _ s''=>CX outer H s E e s'') (fun e' s''=>CX outer H s E e' s'') s'
theorem vy {sc:Scope}{n:Nat}{x:Str}(h:sc.names.lookup x=some .cell):∃c,(cellsFrom n sc.names []).lookup x=some c:=by
 have q:=Gb sc.names n [] (.inl h)
 exact Option.isSome_iff_exists.mp q
theorem a1w {CX:CXT}{P:Program}{w:World}{K:Ab}{mg:Str->Option Value}{base:Heap}{N ps:List Str}{qual:Str}{scope:Scope}{f:Addr}{cd:Value}{A:Around}{outer:List Env}{s s1:Shared}{H:Hp}{E:XK}{us:List Value}{vs:List V}
   (S:FnScope N ps scope) (hd:A.handled=none) (e0:Env0 P w K mg base A outer s H) (hl:vs.length=ps.length) (r:Vals vs us)
   (x:InCallC s s.heap.objs.size (bindL (envOfC qual scope s.heap.objs.size f cd).kindOf (ps.zip us) fun _=>none) (cellsFrom (s.heap.objs.size+1) scope.names []) (bindC (envOfC qual scope s.heap.objs.size f cd).kindOf (ps.zip us) fun _=>none) s1) :
   Inv (cxOf CX P w K mg base N qual scope f cd A outer s H E) [] (ii N vs) H s1:=by
 have hpl:ps.length<=N.length:=by have:=congrArg Ji S.pre;rw[AG] at this;omega
 obtain⟨h1,tk,rfl,hk⟩:=x.done
 have noA:∀b:Addr,b∉(cxOf CX P w K mg base N qual scope f cd A outer s H E).ex:=fun b z=>absurd (show b∈([]:List Addr) from z) (by simp)
 refine⟨⟨e0.mod,S.kind,rfl,rfl,Aj _,fun y z c h1 h2=>?_,fun y hy=>?_,fun y c _ h=>?_,fun _=>hd,Around.frames_deeper e0.frames,.inr ⟨rfl,rfl⟩,fun b z=>absurd z (noA b),e0.bs,e0.bsz,fun b _ _=>noA b,fun b z=>absurd z (noA b),e0.funs,e0.frf⟩,
   rfl,e0.bare,Un.kept hk,⟨_,x.toInCall.ns,fun i y v h1 h2 h3=>?_⟩,fun y c h=>⟨_,x.cell y c h⟩,e0.hok.fresh (Aj _),fun y c h=>?_,fun p hp=>absurd (show p∈([]:List (Addr×Obj)) from hp) (by simp),e0.hok.kept hk,?_⟩
 . exact name_of_addr x.apart (BG h1) (BG h2)
 . have hy:scope.names.lookup y=some .cell\/scope.names.lookup y=some .free:=hy
   rcases hy with hy|hy
   . exact vy hy
   . exact absurd rfl (S.nofree _ (BG hy))
 . exact Bw (x.above y c (BG h))
 . have hi:i<vs.length:=by
     unfold ii at h2
     by_cases hi:i<vs.length
     . exact hi
     . rw[Fe (by simpa using hi)] at h2
       rw[List.getElem?_replicate] at h2
       split at h2<;>cases h2
   have ha:vs[i]? = some v:=by
     unfold ii at h2
     rw[Fp (by simpa using hi),Ai] at h2
     cases e:vs[i]? with
     | none=>rw[e] at h2;cases h2
     | some a=>rw[e] at h2;cases h2;rfl
   obtain⟨u,hu,rv⟩:=r.get ha
   have hp:ps[i]? = some y:=by
     rw[<- S.pre,CY (by omega)];exact h1
   have ndP:ps.Nodup:=by rw[<- S.pre];exact S.nd.sublist (CQ _ _)
   refine⟨u,rv,?_⟩
   rcases S.par y (Ar hp) with k|k
   . exact .inl ⟨k,ud ndP hp hu k⟩
   . obtain⟨c,e⟩:=vy (n:=s.heap.objs.size+1) k
     refine .inr ⟨.inl k,c,e,?_⟩
     have q:=x.cell y c e
     rw[tz ndP hp hu (by show scope.names.lookup y≠_;rw[k];decide)] at q
     exact q
 . exact e0.hok.fresh (Bw (x.above y c (BG h)))
 . unfold ii
   show _=N.length
   rw[Ag,Ad,List.length_replicate]
   omega
theorem aaz {CX:CXT}{P:Program}{w:World}{K:Ab}{mg:Str->Option Value}{base:Heap}{k:Nat}{f:Addr}{name qual:Str}{params:Arguments}{body:List Stmt}{scope:Scope}{dV kV doc pm cdv ct oc:Value}{an od:Option Addr}
   {osl:Array (Option Value)} {N ps:List Str} {sp:Sp} (lk:K.lookup f=some ⟨oc,od,.func (DC name qual params body scope dV kV doc pm an cdv ct),osl⟩) (hcd:Gr K cdv qual=true) (S:FnScope N ps scope)
   (len:∀vs H Q E,sp vs H Q E->vs.length=ps.length)
   (hbody:∀(A:Around) (outer:List Env) (s:Shared) (H:Hp) (vs:List V) (Q:VK) (E:XK),Room k (A.deeper (envOfC qual scope s.heap.objs.size f cdv))->sp vs H Q E->
     ∃t,PSs (cxOf CX P w K mg base N qual scope f cdv A outer s H E) body t/\t { nx:=fun _ H'=>Q .non H',rt:=Q } (ii N vs) H) :
   FnOk P w K mg base CX (k+1) f (DC name qual params body scope dV kV doc pm an cdv ct) ps sp:=by
 refine⟨len,fun A outer s H args us vs Q E hr e0 hb r hsp=>?_⟩
 have hl:=len _ _ _ _ hsp
 have KX:K.In s.heap:=e0.mod.kin.keeps fun b o e=>(e0.bs b o e).1
 have lim:s.heap.NoLimit:=e0.mod.nolimit.keeps fun b o e=>(e0.bs b o e).1
 have hkind:∀y∈ps.zip us,scope.names.lookup y.1=some .local\/(scope.names.lookup y.1=some .cell/\((cellsFrom (s.heap.objs.size+1) scope.names []).lookup y.1).isSome=true):=fun⟨n,v⟩ hy=>by
   rcases S.par n (E6 hy).1 with q|q
   . exact .inl q
   . exact .inr ⟨q,Gb _ _ _ (.inl q)⟩
 refine codeAny_call_function hr.depth (KX _ _ lk) rfl S.co S.gen rfl (PySem.W.codeRec_of KX hcd) (hb _ _ _ _ ?_)
 refine wpAny_newFunctionEnv_cells S.kind hkind fun env he s1 x=>?_
 subst he
 refine⟨lim.keeps x.toInCall.keep,codeAny_func ?_⟩
 obtain⟨t,ht,hq⟩:=hbody A outer s H vs Q E (hr.deeper _) hsp
 have I:Inv (cxOf CX P w K mg base N qual scope f cdv A outer s H E) [] (ii N vs) H s1:=a1w S hr.hd e0 hl r x
 refine BH (ht [] s1 (ii N vs) H _ I hq) (fun fl s' hs=>?_) fun e s' hs=>hs
 have fin:∀{σ':St} {H':Hp} {v:V} {u:Value},Inv (cxOf CX P w K mg base N qual scope f cdv A outer s H E) [] σ' H' s'->RelV v u->Q v H'->CE outer P w H s Q u s' :=
   fun {σ' H' v u} J rv q=>⟨v,H',J.os,J.bare,J.base,J.hok,rv,q⟩
 cases fl with
 | ret u =>
   obtain⟨v,σ',H',J,rv,q⟩:=hs
   exact fin J rv q
 | next =>
   obtain⟨σ',H',J,q⟩:=hs
   exact fin (v:=V.non) (u:=Value.none) J rfl q
 | brk =>
   obtain⟨_,_,_,q⟩:=hs
   exact Cm q
 | cont =>
   obtain⟨_,_,_,q⟩:=hs
   exact Cm q
section
variable {X:Cx}{x:Str}{p pos:Pos}{e:Expr}{es:List Expr}{t:TA}{id T:String}{r:List V->Hp->VK->Prop}
noncomputable def tCB (r:List V->Hp->VK->Prop) (t:TA):TE:=fun σ H Q=>t σ H fun vs H1=>r vs H1 Q
theorem lc (hc:c7 X (.builtin id) r) (hg:Gl X x) (hm:X.mg x=none) (hv:bootBuiltins x=some (.builtin id)) (ha:PA X (e::es) t) (hn:x ≠ "__name__" := by decide) (hdb:(x == ("__debug__" : Str))=false:=by decide)
   (he:starEach (e::es) X.env=(false,eval e X.env)::starEach es X.env:=by rfl) (hpl:(backTo pos (starEach es X.env)).any (·.1)=false:=by rfl):PE X (.Call (.Name x p) (e::es) [] pos) (tCB r t):=by
 intro pins s σ H Q I h
 refine Do (fj I hg hm hv ?_ hn hdb)
 exact PyProof.Rows.callWith_builtin1 (thn (ha pos pins s σ H _ I h) fun us s1 ⟨vs,H1,I1,r1,q1⟩=>hc pins s1 σ H1 vs us Q I1 r1 q1) he hpl
theorem ua (hc:c7 X (.type T) r) (hg:Gl X x) (hm:X.mg x=none) (hv:bootBuiltins x=some (.type T)) (ha:PA X (e::es) t) (hn:x ≠ "__name__" := by decide) (hdb:(x == ("__debug__" : Str))=false:=by decide)
   (he:starEach (e::es) X.env=(false,eval e X.env)::starEach es X.env:=by rfl) (hpl:(backTo pos (starEach es X.env)).any (·.1)=false:=by rfl):PE X (.Call (.Name x p) (e::es) [] pos) (tCB r t):=by
 intro pins s σ H Q I h
 refine Do (fj I hg hm hv ?_ hn hdb)
 exact Bs (thn (ha pos pins s σ H _ I h) fun us s1 ⟨vs,H1,I1,r1,q1⟩=>hc pins s1 σ H1 vs us Q I1 r1 q1) he hpl
end
end L2
namespace HT
open PySem PyProof.Rows
section
open PySem.SeqAt
open PySem.AutoSeq1 (wpAny_loadPart')
open PySem.MeetsSeq PySem.MeetsSeq2 PySem.MeetsSeq3
end
section
variable {prog:Program}{w:World}{A:Around}{E:Value->Shared->Prop}{s:Shared}
theorem cat_tup {t b:Addr}{vs ws:List Value}{Q:Value->Shared->Prop}(ht:IsTup s.heap t vs.toArray) (hb:IsTup s.heap b ws.toArray) (hv:vs≠[])
   (h1:ws=[]->Q (.ref t) s) (h2:ws≠[]->Q (.ref s.heap.objs.size) { s with heap:=s.heap.push { cls:=.type "tuple",data:=.seq (vs++ws).toArray } })
   (hsz:vs.length+ws.length<=sizeLine):wpAny (model prog w) A (binaryOp .Add (.ref t) (.ref b)) Q E s:=by
 obtain⟨⟨cls,dd,data,sl⟩,ho,hc,n,hd⟩:=id ht
 obtain⟨⟨cls2,dd2,data2,sl2⟩,ho2,hc2,n2,hd2⟩:=id hb
 simp only at hc hd hc2 hd2
 subst hc hd hc2 hd2
 have e:vs.toArray++ws.toArray=(vs++ws).toArray:=by simp
 by_cases hw:ws=[]
 . exact HE ⟨_,ho,rfl⟩ ⟨_,ho2,rfl⟩ Fx Hq Em Ee (DU _ _)
     (tuple_addW1 t b vs.toArray ws.toArray n n2 dd dd2 sl sl2 (by simpa using hv) (by simp[hw])) ⟨ho,ho2,h1 hw⟩
 . refine HE ⟨_,ho,rfl⟩ ⟨_,ho2,rfl⟩ Fx Hq Em Ee (DU _ _)
     (tuple_addW2 t b vs.toArray ws.toArray n n2 dd dd2 sl sl2 (by simpa using hv) (by simpa using hw) (by rw[Av,Av];exact hsz)) ⟨ho,ho2,?_⟩
   rw[e]
   exact h2 hw
noncomputable def sIx (n d:Nat):Option Int->Nat
 | none=>d
 | some v=>if v<0 then (v+(n:Int)).toNat else min v.toNat n
theorem sIx_none (n d:Nat):sIx n d none=d:=rfl
theorem sIx_nat (n d k:Nat):sIx n d (some (k:Int))=min k n:=by
 show (if (k:Int)<0 then ((k:Int)+(n:Int)).toNat else min (k:Int).toNat n)=min k n
 rw[if_neg (by omega),BI]
theorem qr (n d:Nat) (hd:d<=n) (o:Option Int):sIx n d o<=n:=by
 cases o with
 | none=>exact hd
 | some v =>
   show (if v<0 then (v+(n:Int)).toNat else min v.toNat n)<=n
   by_cases hv:v<0
   . rw[if_pos hv];omega
   . rw[if_neg hv];exact Nat.min_le_right _ _
theorem zc (v:Int) (n d:Nat):(if v<0 then max (v+(n:Int)) 0 else min v (n:Int))=((sIx n d (some v):Nat):Int):=by
 show (if v<0 then max (v+(n:Int)) 0 else min v (n:Int))=(((if v<0 then (v+(n:Int)).toNat else min v.toNat n):Nat):Int)
 by_cases hv:v<0
 . simp only[if_pos hv];omega
 . simp only[if_neg hv];omega
theorem a1k (lo hi:Option Int) (n:Nat):DO lo hi 1 (n:Int)=(((sIx n 0 lo:Nat):Int),((sIx n n hi:Nat):Int)):=by
 have h1:¬ ((1:Int)<0):=by omega
 unfold DO
 simp only[h1,if_false]
 refine Prod.ext ?_ ?_
 . cases lo with
   | none=>rfl
   | some v=>exact zc v n 0
 . cases hi with
   | none=>rfl
   | some v=>exact zc v n n
theorem a0o (i j:Nat):CT (i:Int) (j:Int) 1=j - i:=by
 unfold CT
 have h1:(1:Int)>0:=by omega
 simp only[h1,if_true,Int.ediv_one]
 split<;>omega
theorem qj {v:Value}{o:Option Int}{Q:Option Int->Shared->Prop}(p:IsPart v o) (h:Q o s):wpAny (model prog w) A (Builtin.Slice.slicePartIndex v) Q E s:=by
 cases p with
 | none=>exact slicePart_none h
 | int i t=>exact slicePart_int h
theorem j3 {sl:Addr}{vl vu:Value}{lo hi:Option Int}{n:Nat}{Q:Int×Int×Nat->Shared->Prop}(hs:s.heap.IsSliceOf sl vl vu .none) (pl:IsPart vl lo) (pu:IsPart vu hi)
   (h:Q (((sIx n 0 lo:Nat):Int),1,sIx n n hi - sIx n 0 lo) s):wpAny (model prog w) A (Ff (.ref sl) (pure (n:Int))) Q E s:=by
 obtain⟨os,hos,hcs,hds⟩:=id hs
 unfold Ff Builtin.Slice.sliceFields
 refine Aa (Aa (Bd hos hds (x:=vl) rfl (Aa (Bd hos hds (x:=vu) rfl (Aa (Bd hos hds (x:=.none) rfl (Ae ?_)))))))
 refine Aa (slicePart_none ?_)
 show wpAny _ _ (if ((1:Int) == 0)=true then _ else _) _ _ s
 rw[if_neg (by decide)]
 refine Aa (qj pl (Aa (qj pu (Aa (Ae ?_)))))
 show wpAny _ _ (match DO lo hi 1 (n:Int) with|(lo,hi)=>pure (lo,(1:Int),CT lo hi 1)) _ _ s
 rw[a1k lo hi n]
 show wpAny _ _ (pure (((sIx n 0 lo:Nat):Int),(1:Int),CT ((sIx n 0 lo:Nat):Int) ((sIx n n hi:Nat):Int) 1)) _ _ s
 rw[a0o]
 exact Ae h
theorem a5b (xs:Array Value) (i k:Nat):((DF k).filterMap fun (m:Nat)=>xs[((i:Int)+(m:Int)*1).toNat]?).toArray=((xs.toList.drop i).take k).toArray:=by
 have e:(fun (m:Nat)=>xs[((i:Int)+(m:Int)*1).toNat]?)=fun m=>xs[i+m]?:=by
   funext m
   have:((i:Int)+(m:Int)*1).toNat=i+m:=by omega
   rw[this]
 rw[e]
 have:=pick_run xs i k
 rw[HF] at this
 have e2:((fun x=>xs[x]?)∘fun x=>i+x)=fun m=>xs[i+m]?:=rfl
 rw[e2] at this
 rw[this]
theorem getItem_tuple_cut {t sl:Addr}{items:Array Value}{vl vu:Value}{lo hi:Option Int}{Q:Value->Shared->Prop}(ht:IsTup s.heap t items) (hs:s.heap.IsSliceOf sl vl vu .none) (pl:IsPart vl lo) (pu:IsPart vu hi)
   (hw:¬ (sIx items.size 0 lo=0/\sIx items.size items.size hi=items.size))
   (h:Q (.ref s.heap.objs.size) { s with heap:=s.heap.push { cls:=.type "tuple",data:=.seq ((items.toList.drop (sIx items.size 0 lo)).take (sIx items.size items.size hi - sIx items.size 0 lo)).toArray } })
   (hsz:items.size<=sizeLine):wpAny (model prog w) A (getItem (.ref t) (.ref sl)) Q E s:=by
 have htake:sizeOk (.seq ((items.toList.drop (sIx items.size 0 lo)).take (sIx items.size items.size hi - sIx items.size 0 lo)).toArray):=by
   show ((items.toList.drop (sIx items.size 0 lo)).take (sIx items.size items.size hi - sIx items.size 0 lo)).toArray.size<=sizeLine
   rw[Av,AG,Be,Ba]
   omega
 have hj:sIx items.size items.size hi<=items.size:=qr _ _ (Aj _) hi
 obtain⟨os,hos,hcs,hds⟩:=id hs
 have hTs:s.TypeIs (.ref sl) "slice" := ⟨os,hos,hcs⟩
 unfold getItem
 try with_reducible refine AS ?_
 first|refine Aa (Ae ?_)|skip
 refine Aa (HU ht.typeIs (by decide) ?_)
 refine Aa (Bc (name:=Bq "__getitem__") ht.typeIs BC
   (Bj BC ht.typeIs entry_tuple_getitem ?_ (args_tuple_getitem _ _)))
 show wpAny _ _ (Fg (.ref t) >>= _) _ _ s
 refine Aa (tupleItemsOf_ ht ?_)
 refine Aa (CG hTs ?_)
 rw[if_pos (by decide)]
 refine Aa (j3 hs pl pu ?_)
 have hno:¬ ((((sIx items.size 0 lo:Nat):Int) == 0 && (1:Int) == 1 && (sIx items.size items.size hi - sIx items.size 0 lo) == items.size)=true):=by
   intro q
   rw[BR,BR] at q
   have q1:((sIx items.size 0 lo:Nat):Int)=0:=eq_of_beq q.1.1
   have q2:sIx items.size items.size hi - sIx items.size 0 lo=items.size:=eq_of_beq q.2
   exact hw ⟨by omega,by omega⟩
 show wpAny _ _ (if (((sIx items.size 0 lo:Nat):Int) == 0 && (1:Int) == 1 && (sIx items.size items.size hi - sIx items.size 0 lo) == items.size)=true then _ else _) _ _ s
 rw[if_neg hno,a5b]
 first
   | exact Aa (m:=CZ _) (AV (Ae ⟨_,rfl,Ae h⟩) htake)
   | exact Aa (m:=CZ _) (AV (Aa (Ae (Ae ⟨_,rfl,Ae h⟩))) htake)
   | exact Aa (Aa (m:=CZ _) (AV (Ae (Ae ⟨_,rfl,Ae h⟩)) htake))
   | exact Aa (Aa (m:=CZ _) (AV (Ae ⟨_,rfl,Ae h⟩) htake))
end
end HT
namespace L2
open PySem PySem.Spec PyProof.Rows
abbrev TO:=St->Hp->(Option Int->Hp->Prop)->Prop
noncomputable def PO (X:Cx) (e:Option Expr) (t:TO):Prop :=
 ∀(pins:List (Addr×Obj)) (s:Shared) (σ:St) (H:Hp) (Q:Option Int->Hp->Prop),Inv X pins σ H s->t σ H Q->
   wpAny (model X.prog X.w) X.A (evalPart e X.env) (fun u s'=>∃o H',Inv X pins σ H' s'/\IsPart u o/\Q o H') X.xe s
noncomputable def zf:TO:=fun _ H Q=>Q none H
noncomputable def a79 (t:TE):TO:=fun σ H Q=>t σ H fun x H1=>∃i,x=.int i/\Q (some i) H1
section
variable {X:Cx}{e:Expr}{te:TE}{lo hi:Option Expr}{tl th:TO}{pos p2:Pos}
theorem yt:PO X none zf:=by
 intro pins s σ H Q I h
 rw[evalPart_none]
 exact Ae ⟨none,H,I,.none,h⟩
theorem yy (h:PE X e te):PO X (some e) (a79 te):=by
 intro pins s σ H Q I hw
 rw[evalPart_some]
 refine thn (h pins s σ H _ I hw) fun u s1 ⟨x,H1,I1,r1,q1⟩=>?_
 obtain⟨i,rfl,q⟩:=q1
 obtain⟨t,rfl⟩:=r1
 exact⟨some i,H1,I1,.int i t,q⟩
noncomputable def SlR (X:Cx) (r:V->Option Int->Option Int->Hp->VK->Prop):Prop :=
 ∀(pins:List (Addr×Obj)) (s:Shared) (σ:St) (H:Hp) (x:V) (v vl vu:Value) (lo hi:Option Int) (sl:Addr) (Q:VK),Inv X pins σ H s->RelV x v->s.heap.IsSliceOf sl vl vu .none->IsPart vl lo->IsPart vu hi->r x lo hi H Q->
   ∃T id,typeLookup (.type T) "__getitem__" = pure (some (.builtin id))/\s.TypeIs v T/\wpAny (model X.prog X.w) X.A (getItem v (.ref sl)) (EP X pins σ Q) X.xe s
noncomputable def tSl (r:V->Option Int->Option Int->Hp->VK->Prop) (te:TE) (tl th:TO):TE:=fun σ H Q=>te σ H fun x H1=>tl σ H1 fun l H2=>th σ H2 fun u H3=>r x l u H3 Q
theorem uz {r:V->Option Int->Option Int->Hp->VK->Prop}(hr:SlR X r) (he:PE X e te) (hl:PO X lo tl) (hu:PO X hi th):PE X (.Subscript e (.Slice lo hi none p2) pos) (tSl r te tl th):=by
 intro pins s σ H Q I h
 refine Subscript_ (thn (he pins s σ H _ I h) fun v s1 ⟨x,H1,I1,r1,q1⟩=>?_)
 refine wpAny_Slice (thn (hl pins s1 σ H1 _ I1 q1) fun vl s2 ⟨l,H2,I2,pl,q2⟩=>thn (hu pins s2 σ H2 _ I2 q2) fun vu s3 ⟨u,H3,I3,pu,q3⟩=>?_)
 rw[evalPart_none]
 refine Ae ?_
 have I4:Inv X pins σ H3 { s3 with heap:=s3.heap.push { cls:=.type "slice",data:=.fields #[vl,vu,.none] } }:=I3.kept (t':=s3.toks) fun b ob q=>Ac _ q
 obtain⟨T,id,hT,ht,hg⟩:=hr pins { s3 with heap:=s3.heap.push { cls:=.type "slice",data:=.fields #[vl,vu,.none] } } σ H3 x v vl vu l u s3.heap.objs.size Q I4 r1 (Heap.IsSliceOf.new ..) pl pu q3
 show wpAny (model X.prog X.w) X.A (subscriptTail e (.Slice lo hi none p2) v (.ref s3.heap.objs.size)) (EP X pins σ Q) X.xe { s3 with heap:=s3.heap.push { cls:=.type "slice",data:=.fields #[vl,vu,.none] } }
 exact tail_any (ops:=[.ref s3.heap.objs.size,v]) ht hT hg (by with_unfolding_all rfl)
noncomputable def cutV (xs:List V) (lo hi:Option Int):List V:=(xs.drop (HT.sIx xs.length 0 lo)).take (HT.sIx xs.length xs.length hi - HT.sIx xs.length 0 lo)
theorem oh (xs:List V) (lo hi:Option Int):(cutV xs lo hi).length<=xs.length:=by
 unfold cutV
 rw[AG,Be]
 omega
noncomputable def rSlT (K:Ab):V->Option Int->Option Int->Hp->VK->Prop:=fun x lo hi H Q=>∃a xs,x=.ref a/\SqT K H a xs/\
 ¬ (HT.sIx xs.length 0 lo=0/\HT.sIx xs.length xs.length hi=xs.length)/\∀p,H p=none->Q (.ref p) (upd H p (.tup (cutV xs lo hi)))
theorem qk:SlR X (rSlT X.K):=by
 intro pins s σ H x v vl vu lo hi sl Q I rx hs pl pu h
 obtain⟨a,xs,rfl,hx,hw,q⟩:=h
 cases rx
 obtain⟨its,r,ht,hz⟩:=I.tuple hx
 have hlen:its.toArray.size=xs.length:=by rw[Av];exact r.length.symm
 refine⟨"tuple",_,BC.lookup,ht.typeIs,?_⟩
 refine HT.getItem_tuple_cut ht hs pl pu (by rw[hlen];exact hw) ?_ (by rw[hlen];exact hz)
 rw[hlen]
 refine⟨.ref s.heap.objs.size,_,I.laid (t':=s.toks) (o:=.tup (cutV xs lo hi)) (fun b ob q=>Ac _ q) (Aj _) ?_,rfl,q _ (I.hok.fresh (Aj _))⟩
 exact⟨A0 (oh xs lo hi) hz,_,(r.drop (HT.sIx xs.length 0 lo)).take (HT.sIx xs.length xs.length hi - HT.sIx xs.length 0 lo),IsTup.new _ _⟩
noncomputable def ab4 (K:Ab):R2:=fun x y H Q=>∃a b xs ys,x=.ref a/\y=.ref b/\SqT K H a xs/\SqT K H b ys/\xs≠[]/\xs.length+ys.length<=sizeLine/\
 (ys=[]->Q (.ref a) H)/\(ys≠[]->∀p,H p=none->Q (.ref p) (upd H p (.tup (xs++ys))))
theorem Vals.nil_iff {xs:List V}{us:List Value}(r:Vals xs us):us=[]↔xs=[]:=by
 cases r with
 | nil=>simp
 | cons _ _=>simp
theorem o7:OpR X (binaryOp .Add) (ab4 X.K):=by
 intro pins s σ H x y v u Q I rx ry h
 obtain⟨a,b,xs,ys,rfl,rfl,ha,hb,hx,hz,q1,q2⟩:=h
 cases rx
 cases ry
 obtain⟨its,r1,p1,_⟩:=I.tuple ha
 obtain⟨its2,r2,p2,_⟩:=I.tuple hb
 refine HT.cat_tup p1 p2 (fun z=>hx (r1.nil_iff.mp z)) (fun z=>⟨.ref a,H,I,rfl,q1 (r2.nil_iff.mp z)⟩) (fun z=>?_) (by rw[<- r1.length,<- r2.length];exact hz)
 refine⟨.ref s.heap.objs.size,_,I.laid (t':=s.toks) (o:=.tup (xs++ys)) (fun b ob q=>Ac _ q) (Aj _) ?_,rfl,q2 (fun w=>z (r2.nil_iff.mpr w)) _ (I.hok.fresh (Aj _))⟩
 exact⟨by rw[Ag];exact hz,_,r1.append r2,IsTup.new _ _⟩
end
noncomputable def ixN (n:Nat) (i:Int):Option Nat:=if 0<=i then (if i<n then some i.toNat else none) else if -(n:Int)<=i then some (i+n).toNat else none
noncomputable def atI {α:Type}(xs:List α) (i:Int):Option α:=(ixN xs.length i).bind fun j=>xs[j]?
theorem a04 {n:Nat}{i:Int}{j:Nat}(h:ixN n i=some j):seqIndex? i n=some j/\j<n /\ -(n:Int)<=i/\i<n:=by
 unfold ixN at h
 by_cases h0:0<=i
 . rw[if_pos h0] at h
   by_cases h1:i<n
   . rw[if_pos h1] at h
     have e:i.toNat=j:=Ay h
     exact⟨by rw[Im h0 h1,e],by omega,by omega,h1⟩
   . rw[if_neg h1] at h;cases h
 . rw[if_neg h0] at h
   by_cases h1 : -(n:Int)<=i
   . rw[if_pos h1] at h
     have e:(i+n).toNat=j:=Ay h
     exact⟨by rw[HG (by omega) h1,e],by omega,h1,by omega⟩
   . rw[if_neg h1] at h;cases h
theorem si {α:Type}{xs:List α}{i:Int}{v:α}(h:atI xs i=some v):∃j,seqIndex? i xs.length=some j/\xs[j]? = some v/\j<xs.length /\ -(xs.length:Int)<=i/\i<xs.length:=by
 unfold atI at h
 cases e:ixN xs.length i with
 | none=>rw[e] at h;cases h
 | some j =>
   rw[e] at h
   obtain⟨h1,h2,h3,h4⟩:=a04 e
   exact⟨j,h1,h,h2,h3,h4⟩
theorem bn {α:Type}{xs:List α}{j:Nat}{v:α}(h:xs[j]? = some v):atI xs (j:Int)=some v:=by
 have hj:j<xs.length:=(Ao.mp h).1
 have e:ixN xs.length (j:Int)=some j:=by
   unfold ixN
   rw[if_pos (by omega),if_pos (by omega)];simp
 unfold atI;rw[e];exact h
noncomputable def yn (b:Expr):Prop:=∀o i,subscripted b false o i=operate [o,i] (getItem o i)
noncomputable def IxR (X:Cx) (r:R2):Prop :=
 ∀(value slice:Expr) (pins:List (Addr×Obj)) (s:Shared) (σ:St) (H:Hp) (x y:V) (v u:Value) (Q:VK),Inv X pins σ H s->RelV x v->RelV y u->r x y H Q->
   subscripted slice false v u=operate [v,u] (getItem v u)->wpAny (model X.prog X.w) X.A (subscriptTail value slice v u) (EP X pins σ Q) X.xe s
noncomputable def MtR (X:Cx) (id:String) (r:V->List V->Hp->VK->Prop):Prop :=
 ∀(pins:List (Addr×Obj)) (s:Shared) (σ:St) (H:Hp) (x:V) (xs:List V) (v:Value) (us:List Value) (Q:VK),Inv X pins σ H s->RelV x v->Vals xs us->r x xs H Q->
   wpAny (model X.prog X.w) X.A (call (.builtin id) (v::us)) (EP X pins σ Q) X.xe s
section
variable {X:Cx}{a b:Expr}{ta tb:TE}{pos:Pos}
theorem uj {r:R2}(hr:IxR X r) (ha:PE X a ta) (hb:PE X b tb) (hs:yn b):PE X (.Subscript a b pos) (tOp r ta tb):=by
 intro pins s σ H Q I h
 exact Subscript_ (binT ha hb I h fun v u s2 x y H2 I2 rx ry q=>hr a b pins s2 σ H2 x y v u Q I2 rx ry q (hs _ _))
noncomputable def rIxL (K:Ab):R2:=fun x y H Q=>∃p xs i v,x=.ref p/\y=.int i/\SqL K H p xs/\atI xs i=some v/\Q v H
noncomputable def rIxT (K:Ab):R2:=fun x y H Q=>∃p xs i v,x=.ref p/\y=.int i/\SqT K H p xs/\atI xs i=some v/\Q v H
noncomputable def rIxS:R2:=fun x y H Q=>∃z i c,x=.str z/\y=.int i/\z.length<=sizeLine/\atI z.cps.toList i=some c/\Q (.str ⟨#[c]⟩) H
theorem et:IxR X (rIxL X.K):=by
 intro value slice pins s σ H x y v u Q I rx ry h hs
 obtain⟨p,xs,i,z,rfl,rfl,hq,he,q⟩:=h
 cases rx
 obtain⟨t,rfl⟩:=ry
 obtain⟨its,r,pl,hz⟩:=I.list hq
 obtain⟨j,h1,h2,h3,h4,h5⟩:=si he
 obtain⟨w,ew,rw'⟩:=r.get h2
 have hl:=r.length
 have hn:=jv
 have fin:EP X pins σ Q w s:=⟨z,H,I,rw',q⟩
 by_cases h0:0<=i
 . have hj:i.toNat=j:=by
     rw[Im h0 h5] at h1
     exact Ay h1
   exact item_listR pl.isList h0 (by omega) (by rw[hj];simpa using ew) fin hs
 . have hj:(i+(its.toArray.size:Int)).toNat=j:=by
     rw[HG (by omega) h4] at h1
     rw[Av,<- hl]
     exact Ay h1
   exact subscriptTail_builtinR (x:=w) pl.isList.typeIs HV.lookup
     (wpAny_getItem_list_neg (Q:=fun r s'=>r=w/\EP X pins σ Q r s') pl.isList (by omega) (by rw[Av]<;>omega) (by omega) (by rw[hj];simpa using ew) ⟨rfl,fin⟩) hs
theorem au:IxR X (rIxT X.K):=by
 intro value slice pins s σ H x y v u Q I rx ry h hs
 obtain⟨p,xs,i,z,rfl,rfl,hq,he,q⟩:=h
 cases rx
 obtain⟨t,rfl⟩:=ry
 obtain⟨its,r,pl,hz⟩:=I.tuple hq
 obtain⟨j,h1,h2,h3,h4,h5⟩:=si he
 obtain⟨w,ew,rw'⟩:=r.get h2
 have hl:=r.length
 have hn:=jv
 have fin:EP X pins σ Q w s:=⟨z,H,I,rw',q⟩
 exact subscriptTail_builtinR (x:=w) pl.typeIs slot_tuple_getitem.lookup
   (getItem_tuple (j:=j) (Q:=fun r s'=>r=w/\EP X pins σ Q r s') pl (by omega) (by omega) (by rw[Av,<- hl];exact h1) (by simpa using ew) ⟨rfl,fin⟩) hs
theorem gj:IxR X rIxS:=by
 intro value slice pins s σ H x y v u Q I rx ry h hs
 obtain⟨z,i,c,rfl,rfl,hz,he,q⟩:=h
 obtain⟨t,rfl⟩:=rx
 obtain⟨t',rfl⟩:=ry
 obtain⟨j,h1,h2,h3,h4,h5⟩:=si he
 have hl:z.cps.toList.length=z.length:=by simp[Fq]
 rw[hl] at h1 h4 h5
 have hn:=jv
 exact tail_any (Hh s z t) slot_str_getitem.lookup (getItem_str (c:=c) (by
   have e1:decide (i < -(2 ^ 63:Int))=false:=decide_eq_false (by omega)
   have e2:decide (i >= 2 ^ 63)=false:=decide_eq_false (by omega)
   rw[e1,e2,IT]) (by rw[h1];simpa using h2) ⟨.str ⟨#[c]⟩,H,I.tok _,⟨_,rfl⟩,q⟩) hs
theorem a0r (its:List Value) (n j:Nat) (u:Value):Eb (·.setIfInBounds j u) { cls:=.type "list",data:=.seq its.toArray n }={ cls:=.type "list",data:=.seq (its.set j u).toArray n }:=by
 simp[Eb]
theorem Inv.lst {pins:List (Addr×Obj)}{σ:St}{H:Hp}{s:Shared}{p:Addr}{xs:List V}(I:Inv X pins σ H s) (h:H p=some (.lst xs)) :
   ∃(its:List Value) (n:Nat),Vals xs its/\s.heap.get? p=some { cls:=.type "list",data:=.seq its.toArray n }/\xs.length<=sizeLine:=by
 obtain⟨z,its,n,r,e⟩:=I.hok p _ h
 exact⟨its,n,r,e,z⟩
theorem Inv.lstUpd {pins:List (Addr×Obj)}{σ:St}{H:Hp}{s:Shared}{p:Addr}{xs ys:List V}{its its':List Value}{n n':Nat}{f:Obj->Obj}(I:Inv X pins σ H s) (h:H p=some (.lst xs))
   (ho:s.heap.get? p=some { cls:=.type "list",data:=.seq its.toArray n }) (hf:f { cls:=.type "list",data:=.seq its.toArray n }={ cls:=.type "list",data:=.seq its'.toArray n' }) (r:Vals ys its') (hz:ys.length<=sizeLine) (t:Nat) :
   Inv X pins σ (upd H p (.lst ys)) { s with heap:=s.heap.update p f,toks:=t }:=by
 have e:(s.heap.update p f).get? p=some { cls:=.type "list",data:=.seq its'.toArray n' }:=by
   rw[Bp f ho (by rw[hf]<;>rfl),hf]
 refine I.write (x:=p) (e:=p) (by rw[h];trivial) (.inl rfl) (fun b u hb q=>(Bl _ _ (Br hb)).trans q) ⟨_,e⟩ ?_
 exact⟨hz,its',n',r,e⟩
noncomputable def aau:V->V->V->Hp->(Hp->Prop)->Prop:=fun o i v H Q=>∃p xs k j,o=.ref p/\i=.int k/\H p=some (.lst xs)/\ixN xs.length k=some j/\Q (upd H p (.lst (xs.set j v)))
theorem ld:PSet X aau:=by
 intro pins s σ H o i v ov iv u Q I ro ri rv h
 obtain⟨p,xs,k,j,rfl,rfl,hp,hj,q⟩:=h
 cases ro
 obtain⟨t,rfl⟩:=ri
 obtain⟨its,n,r,ho,hz⟩:=I.lst hp
 obtain⟨h1,h2,h3,h4⟩:=a04 hj
 have hl:=r.length
 have hn:=jv
 have I':Inv X pins σ (upd H p (.lst (xs.set j v))) { s with heap:=s.heap.update p (Eb (·.setIfInBounds j u)) } :=
   I.lstUpd hp ho (a0r its n j u) (r.set rv j) (by rw[List.length_set];exact hz) s.toks
 by_cases h0:0<=k
 . have hk:k.toNat=j:=by
     rw[Im h0 h4] at h1
     exact Ay h1
   exact PySem.W.ki_setAt ho h0 (by omega) (by rw[Av,<- hl];exact h4) (by rw[hk];exact⟨_,I',q⟩)
 . have hk:(k+(its.toArray.size:Int)).toNat=j:=by
     rw[HG (by omega) h3] at h1
     rw[Av,<- hl]
     exact Ay h1
   exact PySem.W.ki_setBack ho (by omega) (by rw[Av,<- hl];exact h3) (by omega) (by rw[hk];exact⟨_,I',q⟩)
theorem vm (lo hi:Option Int) (n:Nat):(sliceBounds lo hi none n).1=((HT.sIx n 0 lo:Nat):Int)/\(sliceBounds lo hi none n).2.1=((HT.sIx n n hi:Nat):Int)/\(sliceBounds lo hi none n).2.2=1:=by
 refine⟨?_,?_,rfl⟩
 . cases lo with
   | none=>simp[sliceBounds,HT.sIx]
   | some i =>
     simp only[sliceBounds,HT.sIx,Iq,show (1:Int)>0 by decide,if_true]
     by_cases h:i<0
     . simp only[h,if_true]<;>omega
     . simp only[h,if_false]<;>omega
 . cases hi with
   | none=>simp[sliceBounds,HT.sIx]
   | some i =>
     simp only[sliceBounds,HT.sIx,Iq,show (1:Int)>0 by decide,if_true]
     by_cases h:i<0
     . simp only[h,if_true]<;>omega
     . simp only[h,if_false]<;>omega
theorem uh (its:List Value) (lo hi:Option Int):slicePick its.toArray lo hi none=((its.drop (HT.sIx its.length 0 lo)).take (HT.sIx its.length its.length hi - HT.sIx its.length 0 lo)).toArray:=by
 obtain⟨h1,h2,h3⟩:=vm lo hi its.toArray.size
 unfold slicePick
 rw[h1,h2,h3]
 simp only[sliceRange_one,pick_run,Av]<;>rfl
noncomputable def rSlL (K:Ab):V->Option Int->Option Int->Hp->VK->Prop:=fun x lo hi H Q=>∃a xs,x=.ref a/\SqL K H a xs/\∀p,H p=none->Q (.ref p) (upd H p (.lst (cutV xs lo hi)))
theorem a9a:SlR X (rSlL X.K):=by
 intro pins s σ H x v vl vu lo hi sl Q I rx hs pl pu h
 obtain⟨a,xs,rfl,hx,q⟩:=h
 cases rx
 obtain⟨its,r,ht,hz⟩:=I.list hx
 have hlen:=r.length
 refine⟨"list",_,HV.lookup,ht.isList.typeIs,?_⟩
 refine wpAny_getItem_list_slice ht.isList hs pl pu .none (by simp) ?_ (by rw[Av]<;>omega)
 rw[uh,<- hlen]
 refine⟨.ref s.heap.objs.size,_,I.laid (t':=s.toks) (o:=.lst (cutV xs lo hi)) (fun b ob q=>Ac _ q) (Aj _) ?_,rfl,q _ (I.hok.fresh (Aj _))⟩
 exact⟨A0 (oh xs lo hi) hz,_,0,(r.drop (HT.sIx xs.length 0 lo)).take (HT.sIx xs.length xs.length hi - HT.sIx xs.length 0 lo),Ak _ rfl⟩
noncomputable def ie:V->Bool
 | .non=>true
 | .bl _=>true
 | .int _=>true
 | .str _=>true
 | _=>false
noncomputable def eqV:V->V->Bool
 | .non,.non=>true
 | .bl a,.bl b=>a == b
 | .bl a,.int b=>(if a then 1 else 0) == b
 | .int a,.bl b=>a == (if b then 1 else 0)
 | .int a,.int b=>a == b
 | .str a,.str b=>a == b
 | _,_=>false
theorem a9q {A:Around}{s:Shared}{y x:V}{u v:Value}(ry:RelV y u) (rx:RelV x v) (fy:ie y=true) (fx:ie x=true):Hi A s u v (eqV y x):=by
 cases y with
 | non =>
   cases ry
   cases x with
   | non=>cases rx;exact DP _
   | bl b=>cases rx;exact SeqAt.EqAt.none_bool b
   | int b=>obtain⟨t,rfl⟩:=rx;exact SeqAt.EqAt.none_int b t
   | str b=>obtain⟨t,rfl⟩:=rx;exact SeqAt.EqAt.none_str b t
   | _=>exact absurd (show false=true from fx) Am
 | bl a =>
   cases ry
   cases x with
   | non=>cases rx;exact SeqAt.EqAt.bool_none a
   | bl b=>cases rx;exact SeqAt.EqAt.bool_bool a b
   | int b=>obtain⟨t,rfl⟩:=rx;exact SeqAt.EqAt.bool_int a b t
   | str b=>obtain⟨t,rfl⟩:=rx;exact SeqAt.EqAt.bool_str a b t
   | _=>exact absurd (show false=true from fx) Am
 | int a =>
   obtain⟨t',rfl⟩:=ry
   cases x with
   | non=>cases rx;exact SeqAt.EqAt.int_none a t'
   | bl b=>cases rx;exact SeqAt.EqAt.int_bool a t' b
   | int b=>obtain⟨t,rfl⟩:=rx;exact HH a t' b t
   | str b=>obtain⟨t,rfl⟩:=rx;exact Hw a t' b t
   | _=>exact absurd (show false=true from fx) Am
 | str a =>
   obtain⟨t',rfl⟩:=ry
   cases x with
   | non=>cases rx;exact SeqAt.EqAt.str_none a t'
   | bl b=>cases rx;exact SeqAt.EqAt.str_bool a t' b
   | int b=>obtain⟨t,rfl⟩:=rx;exact Hx a t' b t
   | str b=>obtain⟨t,rfl⟩:=rx;exact HI a t' b t
   | _=>exact absurd (show false=true from fx) Am
 | _=>exact absurd (show false=true from fy) Am
noncomputable def eqU (x:V) (u:Value):Bool:=match u with
 | .none=>eqV .non x
 | .bool b=>eqV (.bl b) x
 | .int i _=>eqV (.int i) x
 | .str z _=>eqV (.str z) x
 | _=>false
theorem a2g {x y:V}{u:Value}(r:RelV y u) (f:ie y=true):eqU x u=eqV y x:=by
 cases y with
 | non=>cases r;rfl
 | bl b=>cases r;rfl
 | int i=>obtain⟨t,rfl⟩:=r;rfl
 | str z=>obtain⟨t,rfl⟩:=r;rfl
 | _=>exact absurd (show false=true from f) Am
theorem jm {x:V}:∀{xs:List V}{us:List Value},Vals xs us->xs.all ie=true->us.any (eqU x)=xs.any fun y=>eqV y x
 | _,_,.nil,_=>rfl
 | y::xs,u::us,.cons r t,f=>by
   rw[IU,BR] at f
   rw[Ep,Ep,a2g r f.1,jm t f.2]
theorem iq {A:Around}{s:Shared}{x:V}{v:Value}(rx:RelV x v) (fx:ie x=true):∀{xs:List V}{us:List Value},Vals xs us->xs.all ie=true->∀u∈us,Hi A s u v (eqU x u)
 | _,_,.nil,_=>fun u hu=>by cases hu
 | y::xs,u::us,.cons r t,f=>fun u' hu=>by
   rw[IU,BR] at f
   rcases Aq.mp hu with rfl|hu
   . rw[a2g r f.1];exact a9q r rx f.1 fx
   . exact iq rx fx t f.2 u' hu
noncomputable def inV (x:V) (xs:List V):Bool:=xs.any fun y=>eqV y x
noncomputable def rIn (K:Ab) (neg:Bool):R2:=fun x y H Q=>∃p xs,y=.ref p/\(SqL K H p xs\/SqT K H p xs)/\ie x=true/\xs.all ie=true/\Q (.bl (if neg then !inV x xs else inV x xs)) H
theorem j5:OpR X (compareOp .In) (rIn X.K false):=by
 intro pins s σ H x y v u Q I rx ry h
 obtain⟨p,xs,rfl,hq,fx,fs,q⟩:=h
 cases ry
 rcases hq with hq|hq
 . obtain⟨its,r,pl,hz⟩:=I.list hq
   refine SeqAt.in_listAt (eqU x) pl.isList (fun w hw=>iq rx fx r fs w (by simpa using hw)) ⟨.bl _,H,I,rfl,?_⟩
   rw[show its.toArray.any (eqU x)=its.any (eqU x) by simp,jm r fs]
   exact q
 . obtain⟨its,r,pl,hz⟩:=I.tuple hq
   refine SeqAt.in_tupleAt (eqU x) pl (fun w hw=>iq rx fx r fs w (by simpa using hw)) ⟨.bl _,H,I,rfl,?_⟩
   rw[show its.toArray.any (eqU x)=its.any (eqU x) by simp,jm r fs]
   exact q
theorem v6:OpR X (compareOp .NotIn) (rIn X.K true):=by
 intro pins s σ H x y v u Q I rx ry h
 obtain⟨p,xs,rfl,hq,fx,fs,q⟩:=h
 cases ry
 rcases hq with hq|hq
 . obtain⟨its,r,pl,hz⟩:=I.list hq
   refine SeqAt.notIn_listAt (eqU x) pl.isList (fun w hw=>iq rx fx r fs w (by simpa using hw)) ⟨.bl _,H,I,rfl,?_⟩
   rw[show its.toArray.any (eqU x)=its.any (eqU x) by simp,jm r fs]
   exact q
 . obtain⟨its,r,pl,hz⟩:=I.tuple hq
   refine SeqAt.notIn_tupleAt (eqU x) pl (fun w hw=>iq rx fx r fs w (by simpa using hw)) ⟨.bl _,H,I,rfl,?_⟩
   rw[show its.toArray.any (eqU x)=its.any (eqU x) by simp,jm r fs]
   exact q
theorem dt:c7 X (.builtin "len") (fun xs H Q=>∃p ys,xs=[.ref p]/\(SqL X.K H p ys\/SqT X.K H p ys)/\Q (.int ys.length) H):=by
 intro pins s σ H xs us Q I r h
 obtain⟨p,ys,rfl,hq,q⟩:=h
 obtain⟨u,rfl,rx⟩:=km r
 cases rx
 have hn:=jv
 rcases hq with hq|hq
 . obtain⟨its,r',pl,hz⟩:=I.list hq
   have hlen:=r'.length
   exact Calls.call_len_list pl.isList (by simp only[Av]<;>omega) ⟨.int ys.length,H,I.tok _,⟨s.toks+1,by rw[Av,hlen]⟩,q⟩
 . obtain⟨its,r',pl,hz⟩:=I.tuple hq
   have hlen:=r'.length
   exact len_tuple pl (by simp only[Av]<;>omega) ⟨.int ys.length,H,I.tok _,⟨s.toks+1,by rw[Av,hlen]⟩,q⟩
theorem lp:c7 X (.builtin "len") (fun xs H Q=>∃z,xs=[.str z]/\z.length<=sizeLine/\Q (.int z.length) H):=by
 intro pins s σ H xs us Q I r h
 obtain⟨z,rfl,hz,q⟩:=h
 obtain⟨u,rfl,t,rfl⟩:=km r
 have hn:=jv
 exact len_str (by omega) ⟨.int z.length,H,I.tok _,⟨_,rfl⟩,q⟩
theorem dh:c7 X (.type "list") (fun xs H Q=>∃p ys,xs=[.ref p]/\(SqL X.K H p ys\/SqT X.K H p ys)/\∀l,H l=none->Q (.ref l) (upd H l (.lst ys))):=by
 intro pins s σ H xs us Q I r h
 obtain⟨p,ys,rfl,hq,q⟩:=h
 obtain⟨u,rfl,rx⟩:=km r
 cases rx
 have fin:∀(its:List Value),Vals ys its->ys.length<=sizeLine->∀(h':Heap) (c':Nat),(∀b o',s.heap.get? b=some o'->h'.get? b=some o')->
     h'.get? s.heap.objs.size=some { cls:=.type "list",dict:=none,data:=.seq its.toArray c',slots := #[] }->EP X pins σ Q (.ref s.heap.objs.size) { s with heap:=h' }:=fun its r' hz h' c' kp e =>
   ⟨.ref s.heap.objs.size,_,I.laid (t':=s.toks) kp (Aj _) (show ObjOk X.prog X.w _ h' _ (.lst ys) from⟨hz,its,c',r',e⟩),rfl,q _ (I.hok.fresh (Aj _))⟩
 rcases hq with hq|hq
 . obtain⟨its,r',pl,hz⟩:=I.list hq
   have hlen:=r'.length
   obtain⟨o,ho,hc,n,hd⟩:=pl.isList
   exact call_list_seq p (.inl rfl) ho hc hd (fun h' c' kp e=>fin its r' hz h' c' kp e) (by simp only[Av]<;>omega)
 . obtain⟨its,r',pl,hz⟩:=I.tuple hq
   have hlen:=r'.length
   obtain⟨o,ho,hc,n,hd⟩:=pl
   exact call_list_seq p (.inr rfl) ho hc hd (fun h' c' kp e=>fin its r' hz h' c' kp e) (by simp only[Av]<;>omega)
theorem ia:c7 X (.type "tuple") (fun xs H Q=>∃p ys,xs=[.ref p]/\((SqL X.K H p ys/\∀l,H l=none->Q (.ref l) (upd H l (.tup ys)))\/(SqT X.K H p ys/\Q (.ref p) H))):=by
 intro pins s σ H xs us Q I r h
 obtain⟨p,ys,rfl,h⟩:=h
 obtain⟨u,rfl,rx⟩:=km r
 cases rx
 rcases h with⟨hq,q⟩|⟨hq,q⟩
 . obtain⟨its,r',pl,hz⟩:=I.list hq
   have hlen:=r'.length
   refine call_tuple_list pl.isList (fun h' kp=>?_) (by simp only[Av]<;>omega)
   have I1:Inv X pins σ H { s with heap:=h' }:=I.kept (t':=s.toks) kp
   have I2:Inv X pins σ (upd H h'.objs.size (.tup ys)) { s with heap:=h'.push { cls:=.type "tuple",data:=.seq its.toArray } } :=
     I1.laid (t':=s.toks) (fun b o e=>Ac _ e) (Aj _) (show ObjOk X.prog X.w _ _ _ (.tup ys) from⟨hz,its,r',IsTup.new _ _⟩)
   exact⟨.ref h'.objs.size,_,I2,rfl,q _ (I1.hok.fresh (Aj _))⟩
 . obtain⟨its,r',pl,hz⟩:=I.tuple hq
   exact call_tuple_same pl ⟨.ref p,H,I,rfl,q⟩
noncomputable def tyV (K:Ab) (T:String) (x:V) (H:Hp):Prop:=match x with
 | .str _=>T = "str"
 | .int _=>T = "int"
 | .ref p=>(T = "list" /\ ∃xs,SqL K H p xs)\/(T = "tuple" /\ ∃o,K.lookup p=some o/\o.cls=.type "tuple" /\ o.dict=none)\/
     (T = "dict" /\ ((∃kvs,H p=some (.dK kvs))\/∃kvs,H p=some (.dT kvs)))\/(T = "set" /\ ∃S n,H p=some (.set S n))
 | _=>False
theorem a2i {pins:List (Addr×Obj)}{σ:St}{H:Hp}{s:Shared}{T:String}{x:V}{v:Value}(I:Inv X pins σ H s) (r:RelV x v) (ty:tyV X.K T x H) :
   s.TypeIs v T/\∀a,v=.ref a->∃ob,s.heap.get? a=some ob/\ob.dict=none:=by
 cases x with
 | str z =>
   obtain⟨t,rfl⟩:=r
   cases (show T = "str" from ty)
   exact⟨Hh s z t,fun _ e=>nomatch e⟩
 | int i =>
   obtain⟨t,rfl⟩:=r
   cases (show T = "int" from ty)
   exact⟨typeIs_int s i t,fun _ e=>nomatch e⟩
 | ref p =>
   cases r
   rcases ty with⟨rfl,xs,hq⟩|⟨rfl,o,hk,hc,hd⟩|⟨rfl,hk⟩|⟨rfl,S,n,hk⟩
   . obtain⟨its,_,pl,_⟩:=I.list hq
     refine⟨pl.isList.typeIs,fun a e=>?_⟩
     cases e
     obtain⟨o,n,e,c,hd,_⟩:=pl
     exact⟨o,e,hd⟩
   . refine⟨⟨o,I.kIn p o hk,hc⟩,fun a e=>?_⟩
     cases e
     exact⟨o,I.kIn _ o hk,hd⟩
   . have z:∃o,s.heap.get? p=some o/\o.ExactDict:=by
       rcases hk with⟨kvs,hk⟩|⟨kvs,hk⟩
       . obtain⟨_,_,_,_,o,_,_,e,ex,_⟩:=I.hok p _ hk
         exact⟨o,e,ex⟩
       . obtain⟨_,_,_,_,o,_,_,e,ex,_⟩:=I.hok p _ hk
         exact⟨o,e,ex⟩
     obtain⟨o,e,ex⟩:=z
     refine⟨⟨o,e,ex.1⟩,fun a e2=>?_⟩
     cases e2
     exact⟨o,e,ex.2.1⟩
   . obtain⟨o,_,_,_,e,ex,_⟩:=I.hok p _ hk
     refine⟨⟨o,e,ex.1⟩,fun a e2=>?_⟩
     cases e2
     exact⟨o,e,ex.2.1⟩
 | _=>exact Cm ty
noncomputable def tBM0 (K:Ab) (T:String) (r:V->List V->Hp->VK->Prop) (to:TE):TE:=fun σ H Q=>to σ H fun x H1=>tyV K T x H1/\r x [] H1 Q
noncomputable def tBM (K:Ab) (T:String) (r:V->List V->Hp->VK->Prop) (to:TE) (t:TA):TE:=fun σ H Q=>to σ H fun x H1=>tyV K T x H1/\t σ H1 fun xs H2=>r x xs H2 Q
variable {o e:Expr}{es:List Expr}{to:TE}{t:TA}{name:Str}{apos cpos:Pos}{T id:String}{r:V->List V->Hp->VK->Prop}
theorem aac (pa:PlainAttrs T) (slot:Slot T name id) (hty:typeOf (.builtin id)=pure (.type "method_descriptor")) (hm:MtR X id r) (ho:PE X o to)
   (hbase:attributeBase o name X.env (eval o X.env)=eval o X.env:=by rfl) (hline:(apos.endLine == cpos.line)=true:=by rfl):PE X (.Call (.Attribute o name apos) [] [] cpos) (tBM0 X.K T r to):=by
 intro pins s σ H Q I h
 refine wpAny_Call_method0_late hbase hline (thn (ho pins s σ H _ I h) fun v s1 ⟨x,H1,I1,r1,ty,q1⟩=>?_)
 obtain⟨h1,h2⟩:=a2i I1 r1 ty
 exact⟨T,id,pa,slot,hty,h1,h2,CD rfl (PySem.evalArgs_none (hm pins s1 σ H1 x [] v [] Q I1 r1 .nil q1))⟩
theorem a70 (pa:PlainAttrs T) (slot:Slot T name id) (hty:typeOf (.builtin id)=pure (.type "method_descriptor")) (hm:MtR X id r) (ho:PE X o to) (ha:PA X (e::es) t)
   (hbase:attributeBase o name X.env (eval o X.env)=eval o X.env:=by rfl)
   (hfew:((backTo cpos (starEach (e::es) X.env)).all (fun x => !x.1) && (backToKw cpos (keywordEach [] X.env)).all (fun x=>x.1.isSome)
     && decide ((e::es).length+([]:List Keyword).length+(if ([]:List Keyword).isEmpty then 0 else 1)<30))=true:=by rfl)
   (hline:(apos.endLine == cpos.line)=true:=by rfl) (hs:starEach (e::es) X.env=(false,eval e X.env)::starEach es X.env:=by rfl) (hplain:(backTo cpos (starEach es X.env)).any (·.1)=false:=by rfl) :
   PE X (.Call (.Attribute o name apos) (e::es) [] cpos) (tBM X.K T r to t):=by
 intro pins s σ H Q I h
 refine Gc hbase hfew hline rfl (thn (ho pins s σ H _ I h) fun v s1 ⟨x,H1,I1,r1,ty,q1⟩=>?_)
 obtain⟨h1,h2⟩:=a2i I1 r1 ty
 refine⟨T,id,pa,slot,hty,h1,h2,?_⟩
 have hA:=ha cpos pins s1 σ H1 _ I1 q1
 rw[hs] at hA |-
 refine CD (by show (false || (backTo cpos (starEach es X.env)).any (·.1))=false;rw[hplain]<;>rfl) (DG ?_)
 exact thn hA fun us s2 ⟨vs,H2,I2,r2,q2⟩=>hm pins s2 σ H2 x vs v us Q I2 r1 r2 q2
/- xs.append(e),list.index on a module's tuple .. are MtR facts of 06m -/
end
noncomputable def MtM (X:Cx) (id:String) (r:V->List V->Hp->VK->Prop):Prop :=
 ∀(pins:List (Addr×Obj)) (s:Shared) (σ:St) (H:Hp) (x:V) (xs:List V) (v:Value) (us:List Value) (Q:VK),Inv X pins σ H s->RelV x v->Vals xs us->r x xs H Q->
   wpAny (model X.prog X.w) X.A (call (.builtin id) (v::us)) (EP X pins σ Q) X.xe s
theorem Vals.one:∀{x:V}{us:List Value},Vals [x] us->∃u,us=[u]/\RelV x u
 | _,_,.cons r .nil=>⟨_,rfl,r⟩
theorem Vals.zero:∀{us:List Value},Vals [] us->us=[]
 | _,.nil=>rfl
theorem Vals.dropLast {xs:List V}{us:List Value}(h:Vals xs us):Vals xs.dropLast us.dropLast:=by
 induction h with
 | nil=>exact .nil
 | cons r t ih =>
   cases t with
   | nil=>exact .nil
   | cons q t'=>exact .cons r ih
theorem a0d {α:Type}(l:List α):l.eraseIdx (l.length - 1)=l.dropLast:=by
 induction l with
 | nil=>rfl
 | cons a r ih =>
   cases r with
   | nil=>rfl
   | cons b r =>
     have e:(a::b::r).length - 1=((b::r).length - 1)+1:=by
       have h1:(a::b::r).length=r.length+2:=rfl
       have h2:(b::r).length=r.length+1:=rfl
       omega
     rw[e,List.eraseIdx_cons_succ,ih]
     all_goals rfl
section
variable {X:Cx}{pins:List (Addr×Obj)}{σ:St}{H:Hp}{s:Shared}{l b:Addr}{xs ys zs:List V}
theorem Inv.lset {its its':List Value}{n:Nat}{f:Array Value->Array Value}{t':Nat}(I:Inv X pins σ H s) (hH:H l=some (.lst xs))
   (e:s.heap.get? l=some { cls:=.type "list",data:=.seq its.toArray n }) (hf:f its.toArray=its'.toArray) (hv:Vals ys its') (hz:ys.length<=sizeLine) :
   Inv X pins σ (upd H l (.lst ys)) { s with heap:=s.heap.update l (Eb f),toks:=t' }:=by
 have q:=PySem.IsL.update e f
 rw[hf] at q
 refine I.write (x:=l) (e:=l) (by rw[hH];exact trivial) (.inl rfl) (fun b' u hb hu=>(Bl s.heap (Eb f) (Br hb)).trans hu) ⟨_,q⟩ ?_
 exact⟨hz,its',_,hv,q⟩
theorem Inv.lnew {its:List Value}{t':Nat}(I:Inv X pins σ H s) (hv:Vals ys its) (hz:ys.length<=sizeLine) :
   Inv X pins σ (upd H s.heap.objs.size (.lst ys)) { s with heap:=s.heap.push { cls:=.type "list",data:=.seq its.toArray },toks:=t' } :=
 I.laid (fun _ _ q=>Ac _ q) (Aj _) ⟨hz,its,0,hv,Ak _ rfl⟩
theorem Inv.fresh (I:Inv X pins σ H s):H s.heap.objs.size=none:=I.hok.fresh (Aj _)
theorem Inv.lstM (I:Inv X pins σ H s) (hH:H l=some (.lst xs)):xs.length<=sizeLine/\∃(its:List Value) (n:Nat),Vals xs its/\xs.length=its.length/\s.heap.get? l=some { cls:=.type "list",data:=.seq its.toArray n }:=by
 obtain⟨z,its,n,r,e⟩:=I.hok l _ hH
 exact⟨z,its,n,r,r.length,e⟩
theorem a66 {n:Nat}(h:n<=sizeLine):DV n=false:=by
 unfold DV
 exact decide_eq_false (by omega)
end
section
variable {X:Cx}
noncomputable def a8f:V->List V->Hp->VK->Prop:=fun x vs H Q=>∃l xs y,x=.ref l/\vs=[y]/\H l=some (.lst xs)/\xs.length<sizeLine/\Q .non (upd H l (.lst (xs++[y])))
theorem d0:MtM X "list.append" a8f:=by
 intro pins s σ H x vs v us Q I rx rv h
 obtain⟨l,xs,y,rfl,rfl,hH,hz,q⟩:=h
 cases rx
 obtain⟨u,rfl,ru⟩:=rv.one
 obtain⟨z,its,n,r,hl,e⟩:=I.lstM hH
 refine IH F.slot_list_append ⟨_,e,rfl⟩ F.entry_list_append (F.args_list_append_2 _ _) (PySem.list_append l its.toArray n u (by rw[Av];omega)) ⟨e,?_⟩
 refine⟨.non,_,I.lset (its':=its++[u]) hH e (by simp) (r.append (.cons ru .nil)) ?_,rfl,q⟩
 rw[Ag,AK]
 omega
noncomputable def a8k:V->List V->Hp->VK->Prop:=fun x vs H Q=>∃l b xs zs,x=.ref l/\vs=[.ref b]/\H l=some (.lst xs)/\H b=some (.lst zs)/\xs.length+zs.length<=sizeLine/\Q .non (upd H l (.lst (xs++zs)))
theorem j7:MtM X "list.extend" a8k:=by
 intro pins s σ H x vs v us Q I rx rv h
 obtain⟨l,b,xs,zs,rfl,rfl,hH,hB,hz,q⟩:=h
 cases rx
 obtain⟨u,rfl,ru⟩:=rv.one
 cases ru
 obtain⟨z,its,n,r,hl,e⟩:=I.lstM hH
 obtain⟨z2,its2,n2,r2,hl2,e2⟩:=I.lstM hB
 have hsz:its.toArray.size+its2.toArray.size<=sizeLine:=by rw[Av,Av];omega
 have hlong:¬ (!its.toArray.isEmpty && DV (its.toArray.size+its2.toArray.size))=true:=by
   rw[a66 hsz,Bool.and_false]
   exact Am
 refine IH F.slot_list_extend ⟨_,e,rfl⟩ F.entry_list_extend (F.args_list_extend_2 _ _)
   (AutoSeq1.list_extend_list_list_0 l its.toArray n b its2.toArray n2 hlong (by rw[Av];omega) (by omega)) ⟨e,e2,?_⟩
 refine⟨.non,_,I.lset (its':=its++its2) hH e (by simp) (r.append r2) ?_,rfl,q⟩
 rw[Ag]
 omega
noncomputable def rPop:V->List V->Hp->VK->Prop:=fun x vs H Q=>∃l xs y,x=.ref l/\vs=[]/\H l=some (.lst xs)/\xs[xs.length - 1]? = some y/\Q y (upd H l (.lst xs.dropLast))
theorem a3h:MtM X "list.pop" rPop:=by
 intro pins s σ H x vs v us Q I rx rv h
 obtain⟨l,xs,y,rfl,rfl,hH,hy,q⟩:=h
 cases rx
 have hus:=rv.zero
 subst hus
 obtain⟨z,its,n,r,hl,e⟩:=I.lstM hH
 obtain⟨u,hu,ru⟩:=r.get hy
 have hy':its.toArray[its.toArray.size - 1]? = some u:=by
   show its.toArray[its.length - 1]? = some u
   rw[<- BK,<- hl]
   exact hu
 refine IH F.slot_list_pop ⟨_,e,rfl⟩ F.entry_list_pop (F.args_list_pop_1 _) (MeetsSeq.list_pop_last l its.toArray n u hy' (by rw[Av];omega)) ⟨e,?_⟩
 refine⟨y,_,I.lset (its':=its.dropLast) hH e ?_ r.dropLast ?_,ru,q⟩
 . show its.toArray.eraseIdxIfInBounds (its.toArray.size - 1)=its.dropLast.toArray
   rw[Av,List.eraseIdxIfInBounds_toArray,a0d]
 . rw[List.length_dropLast]
   omega
noncomputable def rCat:R2:=fun x y H Q=>∃l b xs zs,x=.ref l/\y=.ref b/\H l=some (.lst xs)/\H b=some (.lst zs)/\xs.length+zs.length<=sizeLine/\∀p,H p=none->Q (.ref p) (upd H p (.lst (xs++zs)))
theorem gi:OpR X (binaryOp .Add) rCat:=by
 intro pins s σ H x y v u Q I rx ry h
 obtain⟨l,b,xs,zs,rfl,rfl,hH,hB,hz,q⟩:=h
 cases rx
 cases ry
 obtain⟨z,its,n,r,hl,e⟩:=I.lstM hH
 obtain⟨z2,its2,n2,r2,hl2,e2⟩:=I.lstM hB
 refine PySem.P.add_list e e2 ?_ (by rw[Av,Av];omega)
 have ea:its.toArray++its2.toArray=(its++its2).toArray:=by simp
 rw[ea]
 exact⟨.ref _,_,I.lnew (t':=s.toks) (r.append r2) (by rw[Ag];omega),rfl,q _ I.fresh⟩
end
section
variable {prog:Program}{w:World}{A:Around}{E:Value->Shared->Prop}{s:Shared}
end
section
variable {X:Cx}
end
end L2
namespace Att
open PySem PySem.W PySem.Calls PyProof.Rows
theorem qm {P:Params}{h:Heap}:∀(ns:List Int) (vs:List Value),WellAll P h vs (ns.map WData.int)->IntsAre vs ns:=by
 intro ns
 induction ns with
 | nil =>
   intro vs w
   rw[Ja] at w
   cases w
   exact .nil
 | cons n ns ih =>
   intro vs w
   rw[AC] at w
   cases w with
   | cons a b =>
     cases a
     exact .cons _ _ (ih _ b)
theorem a3n {l:OpenLaw}{n:Nat}(hn:l.most=some n) {P:Params}{h:Heap}{args:List WData}{vals:List Value}
   (hpre:l.row.toRowW.claim.pre args=true) (hwl:WellAll P h vals args) :
   ∃a vs ns,vals=[Value.ref a]/\args=[WData.list (ns.map WData.int)]/\h.get? a=some { cls:=.type "list",data:=.seq vs.toArray }/\IntsAre vs ns/\ns.length<=n:=by
 have hsh:WShape.hasAll [] args [.list .int]=true:=(pre_splitW hpre).1
 have hc:l.pre.holds [] { args:=args }=true:=(pre_splitW hpre).2
 obtain⟨d,r,rfl,h1,h2⟩:=hasAllW_cons hsh
 obtain rfl:=hasAllW_nil h2
 obtain⟨xs,rfl,h3⟩:=hasW_list h1
 obtain⟨ns,rfl⟩:=items_int h3
 have hlen:ns.length<=n:=by
   unfold OpenLaw.pre at hc
   have h4:(WTm.not (.lt (.lit (.int (n:Int))) (.len (.arg 0)))).holds [] { args:=[.list (ns.map .int)] }=true:=by
     have h4:=(holds_andW hc).1
     rw[hn] at h4
     exact h4
   have h5:=condW_of h4 (w_not (w_lt w_lit (w_len_list (w_arg rfl))))
   rw[Ad] at h5
   refine Fy fun q=>?_
   have q':(n:Int)<((ns.length:Nat):Int):=by omega
   first
     | (rw[decide_eq_true q'] at h5;exact absurd h5 (by decide))
     | (simp at h5;omega)
 cases hwl with
 | cons w1 w2 =>
   cases w2
   cases w1 with
   | list ho hall=>exact⟨_,_,ns,rfl,rfl,ho,qm ns _ hall,hlen⟩
theorem a1y (l:OpenLaw) (args:List WData):l.row.toRowW.claim.post args (.bool true) args=true :=
 postW_of (r:=l.row.toRowW) (X:=(true == true))
   (show WShape.has [] (.bool true) .bool=true by first|rfl|decide|simp[WShape.has,WShape.arms,WShape.armsAll])
   (show (WTm.eq .res (.lit (.bool true))).value [] { args:=args,res:=some (.bool true),after:=args }=some (.bool (true == true)) from w_eq_bool (w_res rfl) w_lit) rfl
theorem attach_call {l:OpenLaw}{n:Nat}{q:Program}{loose:List Str}{XP:(Str->Option Value)->Heap->Prop}{YP:World->Heap->Prop}{d:DefRec}
   (hn:l.most=some n) (hdf:d.params.defaults=[])
   (call:∀(w:World) (s₀ s₁:Shared) (mg mb:Str->Option Value) (fa:Addr) (o:Obj) (pm cd doc:Value) (a:Addr) (vs:List Value) (ns:List Int),
     Ground q loose [] XP w s₀ mg mb s₁.heap->YP w s₁.heap->
     s₁.heap.get? fa=some o->o.data=.func (docDef d.name d.params d.body d.scope pm cd doc)->s₁.heap.CodeRec cd d.name->mg d.name=some (.ref fa)->
     s₁.heap.get? a=some { cls:=.type "list",data:=.seq vs.toArray }->IntsAre vs ns->ns.length<=n->s₁.gens = #[]->
     codeAny (model l.prog w) callerA (.call (.ref fa) ⟨[.ref a],[]⟩) (fun r s'=>r=.ok (.ret (.bool true))/\OldK s₁.heap s'.heap/\s'.os=s₁.os/\AllBare s'.gens) s₁) :
   WalkO q loose XP YP l.row.toRowW d [] (fun f vs=>II f vs):=by
 intro w s₀ s₁ mg mb G Y fa o pm cd doc dV kV ho hd hcd hD hmg hg args vals as hpre hlay hrd hwl hlo
 obtain rfl:dV=.none:=Dflts.none hD hdf
 obtain rfl:kV=.none:=Dflts.noKw hD
 obtain⟨a,vs,ns,rfl,rfl,hobj,hints,hlen⟩:=a3n hn hpre hwl
 refine enter_call (DB (call w s₀ s₁ mg mb fa o pm cd doc a vs ns G Y ho (fd_plain hd) hcd hmg hobj hints hlen hg) fun r s' hq=>?_)
 obtain⟨rfl,h2,h3,h4⟩:=hq
 exact⟨.inl ⟨.bool true,.bool true,[],rfl,fun _=>rfl,.bool true,a1y l _,fun _=>⟨List.Pairwise.nil,fun _ hm=>(nomatch hm)⟩⟩,h2,h3,h4⟩
section
variable {prog:Program}{w:World}{A:Around}{E:Value->Shared->Prop}{s:Shared}{K:Frag}
end
end Att
namespace L2
open PySem PySem.Spec PyProof.Rows
theorem u0:∀{vs:List Value}{ns:List Int},IntsAre vs ns->Vals (ns.map V.int) vs
 | _,_,.nil=>.nil
 | _,_,.cons n t h=>.cons ⟨t,rfl⟩ (u0 h)
noncomputable def Only (H:Hp):Prop:=∀b,H b=none\/∃o xs,H b=some (.frz o (.lst xs))
theorem a6k {P:Program}{w:World}{K:Ab}{mg mb:Str->Option Value}{CX:CXT}{k:Nat}{fa a:Addr}{fd:FuncData}{x:Str}{sp:Sp}{s₁:Shared}{vs:List Value}{ns:List Int}
   (KX:K.In s₁.heap) (hns:s₁.heap.Ns mainGlobals mg) (hb:s₁.heap.Ns builtinsNs mb) (hbb:∀x:Str,x ≠ "__name__" -> mb x=bootBuiltins x) (hlim:s₁.heap.NoLimit) (hg:s₁.gens = #[])
   (ha:s₁.heap.get? a=some { cls:=.type "list",data:=.seq vs.toArray }) (hi:IntsAre vs ns) (hl:ns.length<=sizeLine) (hr:Room k callerA)
   (F:∀base:Heap,K.In base->base.Ns mainGlobals mg->FnOk P w K mg base CX k fa fd [x] sp) (hbind:∀(s:Shared) (u:Value),BindsTo s fd ⟨[u],[]⟩ [(x,u)])
   (hsp:∀H:Hp,Only H->SqL K H a (ns.map V.int)->sp [.ref a] H (fun v _=>v=.bl true) fun _ _ _=>False)
   (hCX:∀H e s',CX [] H s₁ (fun _ _ _=>False) e s'->False) :
   codeAny (model P w) callerA (.call (.ref fa) ⟨[.ref a],[]⟩) (fun r s'=>r=.ok (.ret (.bool true))/\OldK s₁.heap s'.heap/\s'.os=s₁.os/\AllBare s'.gens) s₁:=by
 have rv:=u0 hi
 have lenV:=hi.length
 have core:∀H:Hp,Only H->SqL K H a (ns.map V.int)->HOk P w H s₁.heap->(∀b,H b≠none->b=a)->(H a≠none->K.lookup a=none)->
     codeAny (model P w) callerA (.call (.ref fa) ⟨[.ref a],[]⟩) (fun r s'=>r=.ok (.ret (.bool true))/\OldK s₁.heap s'.heap/\s'.os=s₁.os/\AllBare s'.gens) s₁:=by
   intro H hO hS hok hA hK
   have base_of:∀{b:Addr} {o:Obj},s₁.heap.get? b=some o->H b=none->(hidT s₁.heap H).get? b=some o:=fun e n=>a67 e n
   have noA:∀{b:Addr} {o:Obj} {es:Array DictEntry} {ep:Nat},s₁.heap.get? b=some o->o.data=.dict es ep->H b=none:=fun {b o es ep} e d=>by
     cases q:H b with
     | none=>rfl
     | some u =>
       have e':b=a:=hA b (by rw[q];simp)
       subst e'
       rw[ha] at e;cases e
       have d':Data.seq vs.toArray _=Data.dict es ep:=d
       cases d'
   have nsK:∀{b:Addr} {m:Str->Option Value},s₁.heap.Ns b m->(hidT s₁.heap H).Ns b m:=fun {b m} ⟨o,es,ep,e,d,r⟩=>⟨o,es,ep,base_of e (noA e d),d,r⟩
   have hKb:K.In (hidT s₁.heap H):=fun b o e=>base_of (KX b o e) (by
     cases q:H b with
     | none=>rfl
     | some u =>
       have e':b=a:=hA b (by rw[q];simp)
       subst e'
       rw[hK (by rw[q];simp)] at e;cases e)
   have hM:Mod K mg (hidT s₁.heap H):=⟨hKb,nsK hns,⟨mb,nsK hb,hbb⟩,let ⟨mc,h1,h2⟩:=hlim;⟨mc,nsK h1,h2⟩⟩
   have e0:Env0 P w K mg (hidT s₁.heap H) callerA [] s₁ H:=⟨rfl,hM,fun b o e=>a80 e,HB (a44 _ _),trivial,fun b hb=>absurd (show b∈([]:List Addr) from hb) (by simp),hok,.of_eq hg⟩
   refine DB ((F _ hKb (nsK hns)).run callerA [] s₁ H ⟨[.ref a],[]⟩ [.ref a] [.ref a] _ _ hr e0 (hbind s₁ (.ref a)) (.cons rfl .nil) (hsp H hO hS)) fun r s' h=>?_
   cases r with
   | error e=>exact (hCX H e s' h).elim
   | ok fl =>
     cases fl with
     | next=>exact Cm h
     | brk=>exact Cm h
     | cont=>exact Cm h
     | ret u =>
       obtain⟨v,H',os,bare,un,hok',r',q⟩:=h
       have q':v=.bl true:=q
       subst q'
       obtain rfl:u=Value.bool true:=r'
       refine⟨rfl,OldK.of_keep fun b o e=>?_,os,bare⟩
       cases q:H b with
       | none=>exact un.keep b o e q (by intro z;exact absurd (show b∈([]:List Addr) from z) (by simp)) (by simp)
       | some u =>
         rcases hO b with z|⟨ob,xs,z⟩
         . rw[q] at z;cases z
         . have z2:=un.frzs b ob _ z
           obtain⟨e1,_⟩:=hok b _ z
           obtain⟨e2,_⟩:=hok' b _ z2
           rw[e] at e1;cases e1
           exact e2
 cases hk:K.lookup a with
 | some o =>
   have e:=KX a o hk
   rw[ha] at e
   cases e
   refine core (fun _=>none) (fun _=>.inl rfl) (.inr ⟨_,vs.toArray,_,hk,rfl,rfl,rfl,by rw[Av,lenV];exact hl,by simpa using rv⟩) (fun b u z=>by have z':(none:Option HO)=some u:=z;cases z') (fun b z=>absurd rfl z) fun z=>absurd rfl z
 | none =>
   refine core (fun b=>if b=a then some (.frz { cls:=.type "list",data:=.seq vs.toArray } (.lst (ns.map V.int))) else none) (fun b=>?_) (.inl (.inr ⟨{ cls:=.type "list",data:=.seq vs.toArray },if_pos rfl⟩)) (fun b u z=>?_) (fun b z=>?_) fun _=>hk
   . by_cases hb:b=a
     . exact .inr ⟨_,_,if_pos hb⟩
     . exact .inl (if_neg hb)
   . by_cases hb:b=a
     . have z':=(if_pos hb).symm.trans z
       cases z'
       subst hb
       exact⟨ha,by rw[Ad];exact hl,vs,_,rv,ha⟩
     . have z':=(if_neg hb).symm.trans z
       cases z'
   . by_cases hb:b=a
     . exact hb
     . exact absurd (if_neg hb) z
theorem walk_of {l:FT}{n k:Nat}{q:Program}{loose:List Str}{XP:(Str->Option Value)->Heap->Prop}{YP:World->Heap->Prop}{d:DefRec}{K:Params->Ab}{CX:World->CXT}{sp:World->Sp}{x:Str}
   (hn:l.most=some n) (hn2:n<=sizeLine) (hdf:d.params.defaults=[]) (hr:Room k callerA)
   (hY:∀(w:World) (h:Heap),YP w h->(K w.params).In h)
   (F:∀(w:World) (mg:Str->Option Value) (fa:Addr) (h:Heap),(K w.params).In h->h.Ns mainGlobals mg->mg d.name=some (.ref fa)->
     ∃fd:FuncData,(∀(s:Shared) (u:Value),BindsTo s fd ⟨[u],[]⟩ [(x,u)])/\
       ∀base:Heap,(K w.params).In base->base.Ns mainGlobals mg->FnOk l.prog w (K w.params) mg base (CX w) k fa fd [x] (sp w))
   (hsp:∀(w:World) (H:Hp) (a:Addr) (ns:List Int),ns.length<=n->Only H->SqL (K w.params) H a (ns.map V.int)->sp w [.ref a] H (fun v _=>v=.bl true) fun _ _ _=>False)
   (hCX:∀(w:World) (H:Hp) (s:Shared) (e:Value) (s':Shared),CX w [] H s (fun _ _ _=>False) e s'->False) :
   IV q loose XP YP l.row.toRowW d [] (fun f vs=>II f vs):=by
 refine Att.attach_call hn hdf fun w s₀ s₁ mg mb fa o pm cd doc a vs ns G Y ho hd hcd hmg hobj hints hlen hg=>?_
 have KX:=hY w _ Y
 obtain⟨fd,hb,hF⟩:=F w mg fa _ KX G.T.g hmg
 exact a6k KX G.T.g G.T.b G.T.builtins G.T.nolimit hg hobj hints (A0 hlen hn2) hr hF hb (fun H hO hS=>hsp w H a ns hlen hO hS) fun H e s'=>hCX w H s₁ e s'
end L2
/- THE LAST THEOREM (shape;LID,My.* are yours):
  My.Adr: a structure of the addresses that your layer names (classes,functions);My.Txt K t: a structure (Prop) of the equations over K;
  My.txt_mk:{K} {implicit addresses ..} (e1:nsIn K mainGlobals "law" = some (some (.ref f))) (e2:K.lookup f=some ⟨oc,od,.func (fnOf "law" "law" params body scope dV kV doc pm an cdv ct),sl⟩) (e3:codeIn K cdv "law" = true) .. : ∃t,My.Txt K t
(the tactic k_is has no namespace: write k_is) -/
namespace L2
open PySem PySem.Spec PyProof.Rows
noncomputable def cw (s:Stmt) (j:Nat):Stmt:=match s with
 | .ClassDef _ _ _ body _ _ _ _ _ _ _=>body.getD j (.Pass ⟨0,0,0,0⟩)
 | _=>.Pass ⟨0,0,0,0⟩
noncomputable def jl (s:Stmt):Arguments:=match s with
 | .FunctionDef _ a _ _ _ _ _ _ _ _=>a
 | _=>{ posonlyargs:=[],args:=[],vararg:=none,kwonlyargs:=[],kw_defaults:=[],kwarg:=none,defaults:=[] }
noncomputable def gr (s:Stmt):List Stmt:=match s with
 | .FunctionDef _ _ b _ _ _ _ _ _ _=>b
 | _=>[]
noncomputable def aq (s:Stmt):Scope:=match s with
 | .FunctionDef _ _ _ _ _ _ sc _ _ _=>sc
 | _=>{ kind:=.function,names:=[],isGenerator:=false,isCoroutine:=false }
abbrev CX0:CXT:=fun _ _ _ _ _ _=>False
abbrev E0:XK:=fun _ _ _=>False
theorem ap {X:Cx}:fg CX0 X E0:=fun _ _ _ _ _ _ _ h=>h.elim
structure Fun (K:Ab) (x qual:Str) (st:Stmt) (f:Addr) (fd:FuncData):Prop where
 ex:∃(oc:Value) (od:Option Addr) (kV doc pm:Value) (an:Option Addr) (cdv ct:Value) (osl:Array (Option Value)),
   fd=DC x qual (jl st) (gr st) (aq st) .none kV doc pm an cdv ct/\K.lookup f=some ⟨oc,od,.func fd,osl⟩/\Gr K cdv qual=true
 kp:Cq K (.ref f)=true
section
variable {P:Program}{w:World}{K:Ab}{mg:Str->Option Value}{base:Heap}
theorem Fun.ok {x qual:Str}{st:Stmt}{f:Addr}{fd:FuncData}{N ps:List Str}{k:Nat}{sp:Sp}(F:Fun K x qual st f fd) (S:FnScope N ps (aq st)) (len:∀vs H Q E,sp vs H Q E->vs.length=ps.length)
   (hbody:∀(cdv:Value) (A:Around) (outer:List Env) (s:Shared) (H:Hp) (vs:List V) (Q:VK) (E:XK),Room k (A.deeper (envOfC qual (aq st) s.heap.objs.size f cdv))->sp vs H Q E->
     ∃t,PSs (cxOf CX0 P w K mg base N qual (aq st) f cdv A outer s H E).nox (gr st) t/\t { nx:=fun _ H'=>Q .non H',rt:=Q } (ii N vs) H):FnOk P w K mg base CX0 (k+1) f fd ps sp:=by
 obtain⟨oc,od,kV,doc,pm,an,cdv,ct,osl,rfl,lk,hcd⟩:=F.ex
 refine aaz lk hcd S len fun A outer s H vs Q E hr hsp=>?_
 obtain⟨t,h,q⟩:=hbody cdv A outer s H vs Q E hr hsp
 exact⟨t,h.nox,q⟩
theorem Fun.binds {x qual:Str}{st:Stmt}{f:Addr}{fd:FuncData}{ps:List Str}(F:Fun K x qual st f fd)
   (h:∀(kV doc pm:Value) (an:Option Addr) (cdv ct:Value) (us:List Value),us.length=ps.length->bindArgs (DC x qual (jl st) (gr st) (aq st) .none kV doc pm an cdv ct) ⟨us,[]⟩=pure (ps.zip us)):Binds K fd ps []:=by
 obtain⟨oc,od,kV,doc,pm,an,cdv,ct,osl,rfl,lk,hcd⟩:=F.ex
 exact .all (h kV doc pm an cdv ct)
theorem fun_mk {x qual:Str}{st:Stmt}{f:Addr}{oc:Value}{od an:Option Addr}{osl:Array (Option Value)}{kV doc pm cdv ct:Value}(l:K.lookup f=some ⟨oc,od,.func (DC x qual (jl st) (gr st) (aq st) .none kV doc pm an cdv ct),osl⟩)
   (c:Gr K cdv qual=true) (k:Cq K (.ref f)=true):Fun K x qual st f (DC x qual (jl st) (gr st) (aq st) .none kV doc pm an cdv ct):=⟨⟨oc,od,kV,doc,pm,an,cdv,ct,osl,rfl,l,c⟩,k⟩
end
theorem dw {A:Around}{k:Nat}(hr:Room k A):A.units+1<cLine:=AL (Ca (by decide:1<=64) _) hr.units
theorem dq {n:Nat}(h:n<=1000):n<sizeLine:=AL h (by decide)
section
variable {X:Cx}
theorem pv (i:Nat) {x:Str}{pos:Pos}(hN:X.N[i]? = some x:=by rfl) (hv:Vis X.env.scope x:=by first|exact Or.inl rfl|exact Or.inr (Or.inl rfl)|exact Or.inr (Or.inr rfl)) (hd:(x == ("__debug__" : Str))=false:=by decide)
   (hcd:(x == ("__classdict__" : Str))=false:=by decide):PE X (.Name x pos) (tVar i):=a9j hN hv hd hcd
end
noncomputable def Same (H H':Hp):Prop:=∀b o,H b=some o->H' b=some o
theorem Same.refl (H:Hp):Same H H:=fun _ _ h=>h
theorem Same.trans {H H1 H2:Hp}(a:Same H H1) (b:Same H1 H2):Same H H2:=fun c o h=>b c o (a c o h)
theorem Same.free {H H':Hp}(e:Same H H') {l:Addr}(h:H' l=Option.none):H l=Option.none:=by
 cases q:H l with
 | none=>rfl
 | some o =>
   rw[e l o q] at h
   cases h
theorem Same.seq {K:Ab}{H H':Hp}{a:Addr}{xs:List V}(e:Same H H') (h:SqL K H a xs):SqL K H' a xs:=by
 rcases h with (h|⟨o,h⟩)|h
 . exact .inl (.inl (e _ _ h))
 . exact .inl (.inr ⟨o,e _ _ h⟩)
 . exact .inr h
set_option maxHeartbeats 16000000
noncomputable def blk (X:Cx) (N:List Str) (s:Shared) (H:Hp) (sc:Scope) (cl:List (Str×Addr)) (C:Addr) (ex:List Addr):Cx where
 prog:=X.prog
 w:=X.w
 K:=X.K
 mg:=X.mg
 base:=X.base
 A:=X.A
 N:=N
 s₀:=s
 H₀:=H
 env:=compEnvC sc cl C X.env
 outer:=X.stack
 stack:=X.stack
 ex:=ex
 fn:=fun _=>false
 calm:=X.calm
 pn:=[]
 xe:=fun _ _=>False
section
variable {prog:Program}{w:World}{A:Around}{R:Result->Shared->Prop}{s:Shared}
theorem oo {elt target iter:Expr}{ifs:List Expr}{scope:Scope}{pos:Pos}{it acc:Value}{env:Env}(I:Nat->Shared->Prop)
   (turn:∀n s,I n s->wpAny (model prog w) A (pyNext it) (fun r s₁=>match r with
     | none=>R (.ok .next) s₁
     | some v=>wpAny (model prog w) A (letOwnedTupleGo target it v) (fun _ s₁'=>wpAny (model prog w) A (assign target env v) (fun _ s₂ =>
         wpAny (model prog w) A (forIn ifs true fun c r=>if r=true then do let ok<-isTrue c env (eval c env);pure (ForInStep.yield ok) else pure (ForInStep.yield r)) (fun ok s₃ =>
           if ok=true then wpAny (model prog w) A (eval elt env) (fun x s₄ =>
             wpAny (model prog w) A (call (.builtin "list.append") [acc,x]) (fun _ s₅=>∃m,m<n/\I m s₅) (fun _ _=>False) s₄) (fun _ _=>False) s₃
           else ∃m,m<n/\I m s₃) (fun _ _=>False) s₂) (fun _ _=>False) s₁') (fun _ _=>False) s₁) (fun _ _=>False) s)
   (n:Nat) (h:I n s) :
   codeAny (model prog w) A (.compLoop (.ListComp elt [⟨target,iter,ifs,0⟩] scope pos) 0 it acc env) R s:=by
 refine codeAny_loop rfl I (fun n s hI=>?_) n h
 show wpAny _ A ((compTurn (.ListComp elt [⟨target,iter,ifs,0⟩] scope pos) 0 it acc env).onRaise (fun x=>do noteFrame x env;theTreesLotGoes x)) _ _ s
 refine wpAny_noted ?_
 rw[compTurn_list]
 refine Aa (Eo (Aa (BH (turn n s hI) (fun r s₁ h₁=>?_) fun _ _ h'=>h'.elim)))
 cases r with
 | none=>exact Ae h₁
 | some v =>
   refine Aa (BH h₁ (fun _ s₁' h₁'=>?_) fun _ _ h'=>h'.elim)
   refine Aa (BH h₁' (fun _ s₂ h₂=>Aa (BH h₂ (fun ok s₃ h₃=>?_) fun _ _ h'=>h'.elim)) fun _ _ h'=>h'.elim)
   cases ok with
   | false=>exact Ae ⟨rfl,h₃⟩
   | true =>
     exact Aa (Aa (BH h₃ (fun x s₄ h₄=>Aa (BH h₄ (fun _ s₅ h₅=>Ae (Ae ⟨rfl,h₅⟩)) fun _ _ h'=>h'.elim)) fun _ _ h'=>h'.elim))
end
noncomputable def PTs (X:Cx) (ifs:List Expr) (t:TT):Prop :=
 ∀(pins:List (Addr×Obj)) (s:Shared) (σ:St) (H:Hp) (Q:Bool->Hp->Prop),Inv X pins σ H s->t σ H Q->
   wpAny (model X.prog X.w) X.A (forIn ifs true fun c r=>if r=true then do let ok<-isTrue c X.env (eval c X.env);pure (ForInStep.yield ok) else pure (ForInStep.yield r)) (TP X pins σ Q) X.xe s
noncomputable def tYes:TT:=fun _ H Q=>Q true H
theorem zq {X:Cx}:PTs X [] tYes:=fun _ _ _ H _ I h=>wpAny_tests_nil ⟨H,I,h⟩
theorem zy {X:Cx}{c:Expr}{t:TT}(h:PT X c t):PTs X [c] t:=fun pins s σ H Q I q=>wpAny_tests_one (h pins s σ H Q I q)
noncomputable def bq (σ:St) (ix:List Nat):St:=ix.map fun j=>(σ[j]?).getD none
noncomputable def ji (J:It) (H1:Hp) (σ:St) (ix:List Nat) (tc:TT) (te:TE) (Q:VK):Prop:=∀D,H1 D=none->
 ∃W:Nat->Nat->Hp->Prop,(∃m,W 0 m (upd H1 D (.lst [])))/\∀i m H,W i m H->
   (J.stop i H/\Q (.ref D) H)\/(J.go i H/\∀x H',J.yld i H x H'->tc (some x::bq σ ix) H' fun b H2 =>
     if b=true then te (some x::bq σ ix) H2 fun y H3=>∃ys,H3 D=some (.lst ys)/\ys.length<sizeLine/\∃m',m'<m/\W (i+1) m' (upd H3 D (.lst (ys++[y])))
     else ∃m',m'<m/\W (i+1) m' H2)
noncomputable def ko (ix:List Nat) (wi:TI) (tc:TT) (te:TE):TE:=fun σ H Q=>wi σ H fun J H1=>ji J H1 σ ix tc te Q
section
variable {X:Cx}
theorem a8g {pins:List (Addr×Obj)}{σ:St}{H:Hp}{s:Shared}{N:List Str}{x:Str}{sc:Scope}{cl:List (Str×Addr)}{fp:List Addr}{ix:List Nat}{h1:Heap}{m:Str->Option Value}{tk:Nat}
   (I:Inv X pins σ H s) (hkind:sc.kind=.function) (hN:N=x::ix.map fun j=>(X.N[j]?).getD "")
   (hsub:∀y c,cl.lookup y=some c->X.env.cells.lookup y=some c) (hhas:∀y,((relabel sc X.env).names.lookup y=some .cell\/(relabel sc X.env).names.lookup y=some .free)->∃c,cl.lookup y=some c)
   (hix:∀j∈ix,∃y,X.N[j]? = some y/\X.env.kindOf y=some .cell/\(relabel sc X.env).names.lookup y=some .cell)
   (hfp:∀b∈fp,FpOk X pins H b) (hlt:∀b∈fp,b<s.heap.objs.size)
   (hns:h1.Ns s.heap.objs.size m) (hk:∀b o,s.heap.get? b=some o->h1.get? b=some o) :
   Inv (blk X N s H sc cl s.heap.objs.size fp) [] (none::bq σ ix) H { s with heap:=h1,toks:=tk }:=by
 have fresh:H s.heap.objs.size=none:=I.hok.fresh (Aj _)
 refine⟨⟨I.ok.mod,hkind,I.ok.glob,I.ok.blt,Aj _,fun y z c h1 h2=>I.ok.inj y z c (hsub y c h1) (hsub z c h2),fun y hy=>hhas y hy,fun y c z _=>absurd (show false=true from z) (by decide),I.ok.hd,I.ok.frames,.inl rfl,
   fun b hb=>⟨Aw (hlt b hb),fun y c e=>(hfp b hb).2.2.2.2.1 y c (hsub y c e)⟩,I.bs,A0 I.ok.bsz I.sz,fun b o e hb=>?_,fun b hb z=>?_,I.stack,I.stkFree⟩,
   rfl,I.bare,Un.kept hk,⟨m,hns,fun i y v e1 e2 e3=>?_⟩,fun y c e=>?_,fresh,fun y c e=>I.freeC y c (hsub y c e),fun p hp=>absurd (show p∈([]:List (Addr×Obj)) from hp) (by simp),I.hok.kept hk,?_⟩
 . rcases (hfp b hb).2.2.2.1 with z|z
   . exact I.ok.noex b o e z
   . exact absurd (AB (Ap e) (A0 I.ok.bsz z)) (AZ _)
 . rcases Aq.mp (I.stkSub b z) with q|q
   . exact (hfp b hb).2.1 q
   . exact (hfp b hb).2.2.1 q
 . cases i with
   | zero =>
     have e2':(some none:Option (Option V))=some (some v):=e2
     cases e2'
   | succ i =>
     have e2':(bq σ ix)[i]? = some (some v):=by simpa using e2
     unfold bq at e2'
     rw[Ai] at e2'
     cases q:ix[i]? with
     | none=>rw[q] at e2';cases e2'
     | some j =>
       rw[q] at e2'
       have e3':(σ[j]?).getD none=some v:=by simpa using e2'
       have e4:σ[j]? = some (some v):=by
         cases q2:σ[j]? with
         | none=>rw[q2] at e3';cases e3'
         | some w=>rw[q2] at e3';simpa using e3'
       obtain⟨y',hy,hc,hr⟩:=hix j (Ar q)
       have ey:y'=y:=by
         have e1':N[i+1]? = some y:=e1
         rw[hN,Ef,Ai,q] at e1'
         have:=Ay e1'
         simpa [hy] using this
       subst ey
       obtain⟨m0,hn0,hl0⟩:=I.loc
       obtain⟨u,r,l⟩:=hl0 j y' v hy e4 (.inr (.inl hc))
       refine⟨u,r,.inr ⟨.inl hr,?_⟩⟩
       rcases l with⟨k,_⟩|⟨_,c,ec,ic⟩
       . rw[hc] at k;cases k
       . obtain⟨c',ec'⟩:=hhas y' (.inl hr)
         have:=hsub y' c' ec'
         rw[ec] at this;cases this
         obtain⟨o,ho,hd⟩:=ic
         exact⟨c,ec',o,hk c o ho,hd⟩
 . obtain⟨v,o,ho,hd⟩:=I.cell y c (hsub y c e)
   exact⟨v,o,hk c o ho,hd⟩
 . show (none::bq σ ix).length=N.length
   rw[hN]
   simp[bq]
theorem sy {elt iter:Expr}{x:Str}{px pos p0:Pos}{ifs:List Expr}{sc:Scope}{cl:List (Str×Addr)}{ix:List Nat}{wi:TI}{tc:TT}{te:TE}(N:List Str)
   (hc:X.calm=true) (hi:PI X (.Name x px) iter wi) (hif:∀s H C ex,PTs (blk X N s H sc cl C ex) ifs tc) (he:∀s H C ex,PE (blk X N s H sc cl C ex) elt te)
   (hkind:sc.kind=.function) (hN:N=x::ix.map fun j=>(X.N[j]?).getD "") (hnd:N.Nodup) (hx:sc.names.lookup x=some .local)
   (hcl:closureFor sc X.env=pure cl) (hcell:∀y∈sc.names,y.2≠.cell) (hnames:∀y∈sc.names,y.2=.local->sc.names.lookup y.1=some .local)
   (hsub:∀y c,cl.lookup y=some c->X.env.cells.lookup y=some c) (hhas:∀y,((relabel sc X.env).names.lookup y=some .cell\/(relabel sc X.env).names.lookup y=some .free)->∃c,cl.lookup y=some c)
   (hix:∀j∈ix,∃y,X.N[j]? = some y/\X.env.kindOf y=some .cell/\(relabel sc X.env).names.lookup y=some .cell)
   (hs:∀x,foldedSetIterable iter X.env x=pure x)
   {use:Option (Value->Sem Unit)} {RP:Value->Shared->Prop} {Q:VK} {pins:List (Addr×Obj)} {s:Shared} {σ:St} {H:Hp} (I:Inv X pins σ H s) (h:ko ix wi tc te σ H Q)
   (hfin:∀(D C:Addr) (s6:Shared) (H5:Hp) (mm:Str->Option Value),Inv X pins σ H5 s6->s6.heap.Ns C mm->H5 C=none->C≠X.env.locals->(∀z c,X.env.cells.lookup z=some c->c≠C)->X.s₀.heap.objs.size<=C->(∀p∈X.pn++pins,p.1≠C)->Q (.ref D) H5->compPost (model X.prog X.w) X.A X.xe use RP (.ref D) C (.ok .next) s6) :
   wpAny (model X.prog X.w) X.A (comprehension (.ListComp elt [⟨.Name x px,iter,ifs,0⟩] sc pos) sc X.env p0 (newList []) false (eval iter X.env) use) RP X.xe s:=by
 refine Fz (use:=use) rfl hs hcl hkind hnames (thn (hi pins s σ H _ I h) fun v s1 h1=>thn h1 fun itv s2 h2=>?_)
 obtain⟨it,fp,tn,J,H2,e,I2,T,st2,f2,q2⟩:=h2
 subst e
 have fr2:H2 s2.heap.objs.size=none:=I2.hok.fresh (Aj _)
 obtain⟨W,⟨m0,w0⟩,turn⟩:=q2 s2.heap.objs.size fr2
 refine AV ?_
 have I3:Inv X pins σ (upd H2 s2.heap.objs.size (.lst [])) { s2 with heap:=s2.heap.push { cls:=.type "list",dict:=none,data:=.seq ([]:List Value).toArray } }:=by
   exact I2.lnew (its:=[]) (ys:=[]) (t':=s2.toks) .nil (A8 _)
 have lt2:∀b∈fp,b<s2.heap.objs.size:=fun b hb=>by
   obtain⟨o,ho,_⟩:=T.obj _ _ st2 b hb
   exact Ap ho
 have f3:∀b∈fp,FpOk X pins (upd H2 s2.heap.objs.size (.lst [])) b:=fun b hb=>⟨by rw[ae (Aw (lt2 b hb))];exact (f2 b hb).1,(f2 b hb).2⟩
 generalize hs3:({ s2 with heap:=s2.heap.push { cls:=.type "list",dict:=none,data:=.seq ([]:List Value).toArray } }:Shared)=s3 at I3
 have hsz3:s2.heap.objs.size<=s3.heap.objs.size:=by rw[<- hs3];show _<=(s2.heap.push _).objs.size;rw[Bh];exact Du _
 have tn3:tn 0 s3.heap:=T.keep _ _ _ st2 fun b _ o e=>by rw[<- hs3];exact Ac _ e
 have lt3:∀b∈fp,b<s3.heap.objs.size:=fun b hb=>AB (lt2 b hb) hsz3
 refine Hj hcell (by intro y hy;simp at hy) (fun h4 hns4 hsb4=>?_) hkind
 have old:∀b o,s3.heap.get? b=some o->h4.get? b=some o:=fun b o e=>hsb4.extBut b o (Aw (Ap e)) (Ac _ e)
 have I4:=a8g (m:=_) (tk:=s3.toks+([]:List (Str×Value)).length) (N:=N) I3 hkind hN hsub hhas hix f3 lt3 hns4 old
 have tn4:tn 0 h4:=T.keep _ _ _ tn3 fun b _ o e=>old b o e
 have fpB:∀{H':Hp},(∀b∈fp,H' b=none)->∀b∈fp,FpOk (blk X N s3 (upd H2 s2.heap.objs.size (.lst [])) sc cl s3.heap.objs.size fp) [] H' b:=fun {H'} hn b hb =>
   ⟨hn b hb,Aw (lt3 b hb),I4.ok.exfs b hb,.inl hb,fun y c e=>(I4.ok.exf b hb).2 y c e,fun p hp=>absurd (show p∈([]:List (Addr×Obj)) from hp) (by simp)⟩
 have loop:codeAny (model X.prog X.w) X.A (.compLoop (.ListComp elt [⟨.Name x px,iter,ifs,0⟩] sc pos) 0 (.ref it) (.ref s2.heap.objs.size) (compEnvC sc cl s3.heap.objs.size X.env))
     (compPost (model X.prog X.w) X.A X.xe use RP (.ref s2.heap.objs.size) s3.heap.objs.size) { s3 with heap:=h4,toks:=s3.toks+([]:List (Str×Value)).length }:=by
   refine oo (fun n s'=>∃i v0 H',Inv (blk X N s3 (upd H2 s2.heap.objs.size (.lst [])) sc cl s3.heap.objs.size fp) [] (v0::bq σ ix) H' s'/\tn i s'.heap/\(∀b∈fp,H' b=none)/\W i n H') ?_ m0
     ⟨0,none,_,I4,tn4,fun b hb=>(f3 b hb).1,w0⟩
   rintro n s5 ⟨i,v0,H5,I5,st5,fr5,w5⟩
   rcases turn i n H5 w5 with⟨stop,qn⟩|⟨go,step⟩
   . refine thn (T.done (blk X N s3 (upd H2 s2.heap.objs.size (.lst [])) sc cl s3.heap.objs.size fp) rfl rfl rfl hc i [] s5 _ H5 _ I5 (fpB fr5) st5 stop) fun r s6 ⟨hr,I6⟩=>?_
     subst hr
     obtain⟨mm,hm,_⟩:=I6.loc
     have I7:Inv X pins σ H5 s6:=by
       have hC:H5 s3.heap.objs.size=none:=I6.free
       have hc3:s3.heap.get? s3.heap.objs.size=none:=Ez (Aj _)
       have up:∀b o,b≠s3.heap.objs.size->s6.heap.get? b=some o->s6.heap.get? b=some o:=fun b o hb e=>e
       have neC:∀b o,s3.heap.get? b=some o->b≠s3.heap.objs.size:=fun b o e=>Aw (Ap e)
       have u:=I6.base
       refine I3.call' (s':=s6) (ch:=fp) I6.os ⟨fun b o e n hb hx=>?_,fun b o e n hb hx=>?_,fun b o e n hx=>u.free b o e n hx,fun b o e hx=>?_,u.tups,u.frzs,u.tbls⟩ (fun b o e=>?_) I6.bare fun b hb=>⟨(f3 b hb).2.2.2.1,(f3 b hb).2.1,(f3 b hb).2.2.2.2.1,(f3 b hb).2.2.2.2.2⟩
       . exact up b o (neC b o e) (u.keep b o e n hb hx)
       . obtain⟨sl,e1⟩:=u.slot b o e n hb hx
         exact⟨sl,up b _ (neC b o e) e1⟩
       . obtain⟨o',e1⟩:=u.there b o e hx
         exact⟨o',up b _ (neC b o e) e1⟩
       . refine (I6.hok b o e).stay (fun c v hc' q=>up c v ?_ q) (fun _ q=>q) fun _ _ q=>q
         rintro rfl
         rcases hc' with z|z
         . rw[<- z,hC] at e;cases e
         . rw[hC] at z;cases z
     have hCn:H5 s3.heap.objs.size=none:=I6.free
     have hCl:s3.heap.objs.size≠X.env.locals:=BD I3.lt
     have hCc:∀z c,X.env.cells.lookup z=some c->c≠s3.heap.objs.size:=fun z c e e2=>by
       obtain⟨v',q⟩:=I3.cell z c e
       exact absurd (e2 ▸ q.lt) (AZ _)
     exact hfin _ _ s6 H5 mm I7 hm hCn hCl hCc I3.sz (fun p hp e2=>absurd (e2 ▸ Ap (I3.pin p hp).1) (AZ _)) qn
   . refine thn (T.item (blk X N s3 (upd H2 s2.heap.objs.size (.lst [])) sc cl s3.heap.objs.size fp) rfl rfl rfl hc i [] s5 _ H5 _ I5 (fpB fr5) st5 go) fun r s6 ⟨u,hr,h6⟩=>?_
     subst hr
     refine thn h6 fun _ s7 ⟨y,H7,I7,r7,y7,st7,fr7⟩=>?_
     have I7':=I7.pinned (fpB fr7) (T.obj _ _ st7)
     refine Fk (ou (i:=0) I7' hnd (by show N[0]? = some x;rw[hN];rfl) (.inl (Cu hx)) r7 (fun s8 I8=>?_) (.inr (Cu hx)))
     have I8':Inv (blk X N s3 (upd H2 s2.heap.objs.size (.lst [])) sc cl s3.heap.objs.size fp) ([]++j0 fp s7.heap) (some y::bq σ ix) H7 s8:=I8
     refine thn (hif _ _ _ _ _ s8 _ H7 _ I8' (step y H7 y7)) fun ok s9 ⟨H9,I9,q9⟩=>?_
     have again:∀{H':Hp} {s':Shared} {m':Nat},Inv (blk X N s3 (upd H2 s2.heap.objs.size (.lst [])) sc cl s3.heap.objs.size fp) ([]++j0 fp s7.heap) (some y::bq σ ix) H' s'->m'<n->W (i+1) m' H'->
         ∃m,m<n/\∃i v0 H',Inv (blk X N s3 (upd H2 s2.heap.objs.size (.lst [])) sc cl s3.heap.objs.size fp) [] (v0::bq σ ix) H' s'/\tn i s'.heap/\(∀b∈fp,H' b=none)/\W i m H':=fun {H' s' m'} Ia hm wa=>by
       refine⟨m',hm,i+1,some y,H',Ia.unpinned,T.keep _ _ _ st7 fun b hb o e=>(Ia.pin (b,o) (AO _ (AO _ (fq hb e)))).1,fun b hb=>?_,wa⟩
       obtain⟨o,e,d⟩:=T.obj _ _ st7 b hb
       exact (Ia.pin (b,o) (AO _ (AO _ (fq hb e)))).2.1
     cases ok with
     | false =>
       rw[if_neg Am] at q9 |-
       obtain⟨m',hm,wa⟩:=q9
       exact again I9 hm wa
     | true =>
       rw[if_pos rfl] at q9 |-
       refine thn (he _ _ _ _ _ s9 _ H9 _ I9 q9) fun v10 s10 ⟨z,H10,I10,r10,ys,hD,hl,m',hm,wa⟩=>?_
       exact thn (d0 _ s10 _ H10 (.ref s2.heap.objs.size) [z] (.ref s2.heap.objs.size) [v10] (fun _ H'=>H'=upd H10 s2.heap.objs.size (.lst (ys++[z]))) I10 rfl (.cons r10 .nil) ⟨_,ys,z,rfl,rfl,hD,hl,rfl⟩)
         fun _ s11 ⟨_,H11,I11,_,e11⟩=>again I11 hm (by rw[e11];exact wa)
 subst hs3
 exact Gd loop (T.self _ 0 _ _ _ tn4 loop)
theorem ym {elt iter:Expr}{x:Str}{px pos:Pos}{ifs:List Expr}{sc:Scope}{cl:List (Str×Addr)}{ix:List Nat}{wi:TI}{tc:TT}{te:TE}(N:List Str)
   (hc:X.calm=true) (hi:PI X (.Name x px) iter wi) (hif:∀s H C ex,PTs (blk X N s H sc cl C ex) ifs tc) (he:∀s H C ex,PE (blk X N s H sc cl C ex) elt te)
   (hkind:sc.kind=.function) (hN:N=x::ix.map fun j=>(X.N[j]?).getD "") (hnd:N.Nodup) (hx:sc.names.lookup x=some .local)
   (hcl:closureFor sc X.env=pure cl) (hcell:∀y∈sc.names,y.2≠.cell) (hnames:∀y∈sc.names,y.2=.local->sc.names.lookup y.1=some .local)
   (hsub:∀y c,cl.lookup y=some c->X.env.cells.lookup y=some c) (hhas:∀y,((relabel sc X.env).names.lookup y=some .cell\/(relabel sc X.env).names.lookup y=some .free)->∃c,cl.lookup y=some c)
   (hix:∀j∈ix,∃y,X.N[j]? = some y/\X.env.kindOf y=some .cell/\(relabel sc X.env).names.lookup y=some .cell)
   (hs:∀x,foldedSetIterable iter X.env x=pure x:=by intro _;rfl) :
   PE X (.ListComp elt [⟨.Name x px,iter,ifs,0⟩] sc pos) (ko ix wi tc te):=by
 intro pins s σ H Q I h
 rw[eval_ListComp]
 exact sy N hc hi hif he hkind hN hnd hx hcl hcell hnames hsub hhas hix hs I h fun D C s6 H5 mm I7 hm hCn hCl hCc hsz hpin qn =>
   ⟨mm,hm,fun h7 sb7=>⟨.ref D,H5,I7.turned (t':=s6.toks) (it:=C) (fun b o hb e=>sb7.extBut b o hb e) hCn hCl (.inr hsz) hCc hpin,rfl,qn⟩⟩
end
noncomputable def Its (x:Str):It:=⟨fun i _=>i<x.cps.size,fun i H v H'=>H'=H/\∃c,x.cps[i]? = some c/\v=.str ⟨#[c]⟩,fun i _=>x.cps.size<=i⟩
theorem a5n {P:Program}{w:World}{K:Ab}{tg:Expr}{x:Str}{t:Tok}(it:Addr) (T:String) (hT:T = "str_ascii_iterator" \/ T = "str_iterator"):Turn P w K tg (Its x) [it] it (fun i h=>h.IsStrIter it T x t i/\i<=x.cps.size) where
 mem:=by simp
 obj:=fun i h st b hb=>by
   have e:b=it:=by simpa using hb
   subst e
   obtain⟨⟨o,e,c,d⟩,_⟩:=st
   exact⟨o,e,fun v z=>by rw[d] at z;cases z⟩
 keep:=fun i h h' st k=>⟨let ⟨o,ho,r⟩:=st.1;⟨o,k it (by simp) o ho,r⟩,st.2⟩
 item:=by
   intro X hP hw hK hc i pins s σ H E I hf st hg
   subst hP hw hK
   obtain⟨f0,f1,f2,f3,f4,f5⟩:=hf it (by simp)
   have hi:i<x.cps.size:=hg
   have fin:∀h',h'.IsStrIter it T x t (i+1)->(∀b o,b≠it->s.heap.get? b=some o->h'.get? b=some o)->∀u:Tok,∃uv,some (Value.str ⟨#[x.cps[i]]⟩ u)=some uv/\
       wpAny (model X.prog X.w) X.A (letOwnedTupleGo tg (.ref it) uv) (fun _ s2=>∃v H',Inv X pins σ H' s2/\RelV v uv/\(Its x).yld i H v H'/\(s2.heap.IsStrIter it T x t (i+1)/\i+1<=x.cps.size)/\∀b∈[it],H' b=none) E { s with heap:=h',toks:=s.toks+1 }:=fun h' st' kk u=>by
     have I1:Inv X pins σ H { s with heap:=h',toks:=s.toks+1 }:=I.turned (fun b o hb e=>kk b o hb e) f0 f1 f3 f4 f5
     obtain⟨o,e,c,d⟩:=id st'
     refine⟨_,rfl,qq (s:={ s with heap:=h',toks:=s.toks+1 }) e c d (by rcases hT with rfl|rfl<;>decide) ⟨.str ⟨#[x.cps[i]]⟩,H,I1,⟨u,rfl⟩,⟨rfl,_,by simp[hi],rfl⟩,⟨st',hi⟩,fun b hb=>?_⟩⟩
     exact (hf b hb).1
   rcases hT with rfl|rfl
   . exact wpAny_pyNext_ascii_item st.1 (c:=x.cps[i]) (by simp[hi]) fun h' hit' hs'=>fin h' hit' (fun b o hb e=>hs'.extBut b o hb e) _
   . exact wpAny_pyNext_wide_item st.1 (c:=x.cps[i]) (by simp[hi]) fun h' hit' hs'=>fin h' hit' (fun b o hb e=>hs'.extBut b o hb e) _
 done:=by
   intro X hP hw hK hc i pins s σ H E I hf st hg
   subst hP hw hK
   obtain⟨f0,f1,f2,f3,f4,f5⟩:=hf it (by simp)
   have hi:x.cps.size<=i:=hg
   rcases hT with rfl|rfl
   . exact wpAny_pyNext_ascii_end (I.ok.hd hc) st.1 (by simp;omega) fun h' eb=>⟨rfl,I.turned (t':=s.toks) (fun b o hb e=>eb b o hb e) f0 f1 f3 f4 f5⟩
   . exact wpAny_pyNext_wide_end (I.ok.hd hc) st.1 (by simp;omega) fun h' eb=>⟨rfl,I.turned (t':=s.toks) (fun b o hb e=>eb b o hb e) f0 f1 f3 f4 f5⟩
 self:=fun _ _ _ _ _ st h=>by
   rcases hT with rfl|rfl
   . exact wpAny_pyIter_striter_ascii st.1 h
   . exact wpAny_pyIter_striter_wide st.1 h
section
variable {X:Cx}{tg:Expr}
noncomputable def iStr (tl:TE):TI:=fun σ H R=>tl σ H fun x H1=>∃z,x=.str z/\R (Its z) H1
theorem a9x {l:Expr}{tl:TE}(hl:PE X l tl):PI X tg l (iStr tl):=by
 intro pins s σ H R I h
 refine thn (hl pins s σ H _ I h) fun v s1 ⟨x,H1,I1,r1,q1⟩=>?_
 obtain⟨z,e,q⟩:=q1
 subst e
 obtain⟨t,rfl⟩:=r1
 have fin:∀(o:Obj) (T:String),(T = "str_ascii_iterator" \/ T = "str_iterator")->(s1.heap.push o).IsStrIter s1.heap.objs.size T z t 0->PIE X pins σ tg R (.ref s1.heap.objs.size) { s1 with heap:=s1.heap.push o }:=fun o T hT hs=>by
   refine⟨s1.heap.objs.size,[s1.heap.objs.size],_,_,H1,rfl,I1.kept (t':=s1.toks) fun b o e=>Ac _ e,a5n (x:=z) (t:=t) _ T hT,⟨hs,A8 _⟩,fun b hb=>?_,q⟩
   have e:b=s1.heap.objs.size:=by simpa using hb
   subst e
   exact I1.fpOk (Aj _) (I1.hok.fresh (Aj _))
 cases ha:z.cps.all (· < 128)
 . exact wpAny_pyIter_wide ha (fin _ _ (.inr rfl) ⟨_,Ak _ rfl,rfl,rfl⟩)
 . exact wpAny_pyIter_ascii ha (fin _ _ (.inl rfl) ⟨_,Ak _ rfl,rfl,rfl⟩)
theorem a6n (hc:X.calm=true):c7 X (.builtin "all") (fun xs H Q=>∃(a:Addr) (bs:List Bool),xs=[.ref a]/\SqL X.K H a (bs.map V.bl)/\Q (.bl (bs.all id)) H):=by
 intro pins s σ H xs us Q I r h
 obtain⟨a,bs,rfl,hq,q⟩:=h
 obtain⟨u,rfl,ru⟩:=r.one
 cases ru
 obtain⟨its,rv,p,hz⟩:=I.list hq
 have hlt:a<s.heap.objs.size:=by obtain⟨o,n,e,_⟩:=p;exact Ap e
 refine call_all_walk (Cw p.isList ?_)
 have len:bs.length=its.length:=by have:=rv.length;simpa using this
 refine⟨s.heap.objs.size,_,_,_,_,_,fun i=>(bs[i]?).getD false,rfl,IJ (A:=X.A.in1) (show X.A.in1.handled=none from I.ok.hd hc) s.heap.objs.size a (Aw hlt) its.toArray,⟨⟨_,Ak _ rfl,rfl,rfl⟩,p.isList.at fun o e=>Ac _ e⟩,?_,?_⟩
 . intro i v s' Q' E' hv hQ
   have hv':its[i]? = some v:=by simpa using hv
   cases hb:bs[i]? with
   | none =>
     have h1:=List.getElem?_eq_none_iff.mp hb
     have h2:=(Ao.mp hv').1
     omega
   | some b =>
     obtain⟨u,hu,ru⟩:=rv.get (i:=i) (x:=V.bl b) (by rw[Ai,hb]<;>rfl)
     rw[hv'] at hu
     cases hu
     cases ru
     simp only[hb,FA] at hQ
     exact Cv hQ
 . intro h' tk hk
   have e:(DF its.toArray.size).all (fun i=>(bs[i]?).getD false)=bs.all id:=by
     rw[Av,<- len]
     rw[Cj]
     simp only[Da,List.mem_range,id]
     constructor
     . intro h b hb
       obtain⟨i,hi,e⟩:=List.mem_iff_getElem.mp hb
       have:=h i hi
       rw[Af hi,FA,e] at this
       exact this
     . intro h i hi
       rw[Af hi,FA]
       exact h _ (Dc hi)
   have fr:FpOk X pins H s.heap.objs.size:=I.fpOk (Aj _) (I.hok.fresh (Aj _))
   refine⟨.bl (bs.all id),H,?_,by rw[e];rfl,q⟩
   have I1:Inv X pins σ H { s with heap:=h',toks:=tk }:=I.kept (h':=h') (t':=tk) fun b o e=>hk b o (fun z=>by
     have:b=s.heap.objs.size:=by simpa using z
     exact absurd (Ap e) (by rw[this];exact AZ _)) (Ac _ e)
   exact I1
theorem rf:c7 X (.builtin "isinstance") (fun xs H Q=>∃a ys,xs=[.ref a,.ty "tuple"]/\SqT X.K H a ys/\Q (.bl true) H):=by
 intro pins s σ H xs us Q I r h
 obtain⟨a,ys,rfl,hq,q⟩:=h
 cases r with
 | cons r1 r =>
   cases r with
   | cons r2 r =>
     cases r
     cases r1
     cases r2
     obtain⟨its,rv,p,hz⟩:=I.tuple hq
     obtain⟨o,e,hc,_⟩:=p
     exact IsiPair.tuple_tuple e hc ⟨.bl true,H,I,rfl,q⟩
end
theorem a0x (t:SetTable) (es:Array (Int×Value)) (h:Int) (x:Value):(layNew t es h x).2.1.led=t.led:=by
 unfold layNew
 split
 . dsimp only
   unfold SetTable.orStandIn
   split<;>rfl
 . rfl
theorem mh {t t':SetTable}{hs:Array Int}{n:Nat}{o:Array Nat}(h:t.relaid hs n=some (t',o)):t'.led=t.led/\t'.plain=t.plain:=by
 unfold SetTable.relaid SetTable.laid at h
 cases e:SetTable.layClean (SetTable.sizeAbove n - 1) hs with
 | none=>rw[e] at h;cases h
 | some ow =>
   rw[e] at h
   have h':=Ay h
   cases h'
   exact⟨rfl,rfl⟩
theorem vw (t:SetTable) (es:Array (Int×Value)) (n:Nat):(relayAll t es n).2.1.led=t.led:=by
 unfold relayAll
 split
 . rename_i t' o e
   dsimp only
   split
   . exact (mh e).1
   . rfl
 . rfl
theorem re (t:SetTable) (es:Array (Int×Value)) (n:Nat) (hp:(relayAll t es n).2.1.plain=true):t.plain=true:=by
 unfold relayAll at hp
 split at hp
 . rename_i t' o e
   dsimp only at hp
   split at hp
   . rw[<- (mh e).2];exact hp
   . cases hp
 . cases hp
noncomputable def fz:Value->Str
 | .str x _=>x
 | _=>⟨#[]⟩
noncomputable def SSet (P:Program) (w:World) (h:Heap) (a:Addr) (ss:List Str):Prop :=
 ∃o es ep t,h.get? a=some o/\o.ExactSet/\o.data=.set es ep t/\ElemsOf (strKind P w) es.toList/\es.toList.map (fun e=>fz e.2)=ss/\ss.Nodup/\es.size<scanBound/\t.fits es.size=true/\
   t.led = !w.params.followText "set-order" /\ (1<=es.size->t.plain=false)
theorem a1z {P:Program}{w:World}{x:Str}{v:Value}(h:(strKind P w).is x v=true):∃u,v=.str x u:=Hs h
theorem tq {P:Program}{w:World}{l:List (Int×Value)}(h:ElemsOf (strKind P w) l) {e:Int×Value}(he:e∈l):∃u,e.2=.str (fz e.2) u:=by
 obtain⟨⟨k,hk,_⟩,_⟩:=h e he
 obtain⟨u,hu⟩:=a1z hk
 exact⟨u,by rw[hu];rfl⟩
theorem a64 {P:Program}{w:World}{l:List (Int×Value)}(h:ElemsOf (strKind P w) l) (x:Str):(l.findIdx? (fun e=>(strKind P w).is x e.2)).isSome=decide (x∈l.map fun e=>fz e.2):=by
 rw[Cj,List.findIdx?_isSome,FB,decide_eq_true_eq,List.mem_map]
 constructor
 . rintro⟨e,he,hk⟩
   obtain⟨u,hu⟩:=a1z hk
   exact⟨e,he,by rw[hu];rfl⟩
 . rintro⟨e,he,rfl⟩
   obtain⟨u,hu⟩:=tq h he
   refine⟨e,he,?_⟩
   rw[hu]
   exact Fs _ _ _ _
section
variable {P:Program}{w:World}{A:Around}{E:Value->Shared->Prop}{s:Shared}
theorem a65 {a:Addr}{ss:List Str}{x:Str}{u:Tok}{Q:Bool->Shared->Prop}(hS:SSet P w s.heap a ss) (hroom:ss.length+1<scanBound)
   (h:∀h' ss' b,Ck a s.heap h'->SSet P w h' a ss'->(if x∈ss then ss'=ss else ss'.Perm (ss++[x]))->Q b { s with heap:=h' }) :
   wpAny (model P w) A (setAddHashed a (.str x u) (hashStr w x)) Q E s:=by
 obtain⟨o,es,ep,t,ho,hex,hd,hel,hss,hnd,hb,hf,hled,hpl⟩:=hS
 have hkey:(strKind P w).is x (.str x u)=true:=Fs _ _ _ _
 have hn:es.size=ss.length:=by rw[<- hss,Ad,Ba]
 unfold setAddHashed setAddHashedIn
 refine AS (Aa (Dz ho hd hf ?_))
 dsimp only
 rw[byScan_of (knd:=strKind P w) rfl hb hel]
 simp only[↓reduceIte]
 unfold setAddByScan
 refine Aa ?_
 refine Aa (Cn ?_)
 refine Aa (wpAny_setScan_of (knd:=strKind P w) hkey ho hd hf hel ?_)
 have hfm:=a64 hel x
 rw[hss] at hfm
 cases hr:List.findIdx? (fun e=>(strKind P w).is x e.2) es.toList with
 | some j =>
   dsimp only
   rw[hr] at hfm
   have hx:x∈ss:=of_decide_eq_true (Eq.symm hfm)
   refine Ae (Ae ?_)
   have:=h s.heap ss false (HW a s.heap) ⟨o,es,ep,t,ho,hex,hd,hel,hss,hnd,hb,hf,hled,hpl⟩ (by rw[if_pos hx])
   exact this
 | none =>
   dsimp only
   rw[hr] at hfm
   have hx:x∉ss:=of_decide_eq_false (Eq.symm hfm)
   have hgw:∀(b:Bool) {s₁:Shared} {Q':Unit->Shared->Prop},Q' () s₁->wpAny (model P w) A (match b with|true=>rule "set.scan.the-table-gave-way" | false=>pure ()) Q' E s₁ :=
     fun b s₁ Q' hq=>by cases b<;>first|exact Ae hq|exact Cn hq
   have hperm:=layNew_perm t es (hashStr w x) (.str x u)
   have hfits:=layNew_fits t es (hashStr w x) (.str x u)
   have hled1:=a0x t es (hashStr w x) (.str x u)
   show wpAny (model P w) A _ _ E s
   have hash:(strKind P w).hash x=hashStr w x:=rfl
   try rw[hash]
   generalize hL:layNew t es (hashStr w x) (.str x u)=L at hperm hfits hled1 |-
   obtain⟨es1,t1,wasDummy,gave⟩:=L
   dsimp only at hperm hfits hled1 |-
   rw[HX] at hperm
   have hel1:ElemsOf (strKind P w) es1.toList:=(ElemsOf.push (knd:=strKind P w) hel hkey rfl).perm hperm
   have hss1:(es1.toList.map fun e=>fz e.2).Perm (ss++[x]):=by
     have:=hperm.map (fun e:Int×Value=>fz e.2)
     rw[Az,hss] at this
     exact this
   have hsz1:es1.size=ss.length+1:=by rw[<- Ba,hperm.length_eq,Ag,Ba,hn];rfl
   have hb1:es1.size<scanBound:=by rw[hsz1];exact hroom
   have hnd1:(es1.toList.map fun e=>fz e.2).Nodup:=by
     refine hss1.nodup_iff.mpr ?_
     rw[List.nodup_append]
     exact⟨hnd,by simp,fun y hy z hz e=>by rw[As.mp hz] at e;exact hx (e ▸ hy)⟩
   refine Aa (hgw _ ?_)
   have tail:∀t2:SetTable,t2.fits es1.size=true->t2.led=t.led->t2.plain=false->∀(g:Bool->Sem Unit),(∀(b:Bool) (s₁:Shared) (Q':Unit->Shared->Prop),Q' () s₁->wpAny (model P w) A (g b) Q' E s₁)->
       wpAny (model P w) A (do
         storeSet a es1 t2
         if (!wasDummy && t2.tooFull)=true then do
             g (relayAll t2 es1 (C0 es1.size)).2.2
             storeSet a (relayAll t2 es1 (C0 es1.size)).1 (relayAll t2 es1 (C0 es1.size)).2.1
             pure (some true)
           else pure (some true)) (fun r s'=>r=some true/\∃h' ss',s'={ s with heap:=h' }/\Ck a s.heap h'/\SSet P w h' a ss'/\ss'.Perm (ss++[x])) E s:=by
     intro t2 hf2 hl2 hp2 g hg
     refine Aa (HY ho hd ?_ (Fl hb1))
     have ho1:(s.heap.update a (E7 es1 t2)).get? a=some { o with data:=.set es1 (ep+1) t2 }:=by
       have:=Bp (E7 es1 t2) ho (by rw[HJ es1 t2 hd];rfl)
       rw[HJ es1 t2 hd] at this;exact this
     have hsb1:=Cz s.heap a (E7 es1 t2)
     split
     . have hp:=relayAll_perm t2 es1 (C0 es1.size)
       have hfr:=relayAll_fits t2 es1 (C0 es1.size)
       have hlr:=vw t2 es1 (C0 es1.size)
       have hpr:=re t2 es1 (C0 es1.size)
       generalize hRl:relayAll t2 es1 (C0 es1.size)=Rl at hp hfr hlr hpr |-
       obtain⟨es2,t3,gave2⟩:=Rl
       dsimp only at hp hfr hlr hpr |-
       have hsz:es2.size=es1.size:=by rw[<- Ba,hp.length_eq,Ba]
       have hb2:es2.size<scanBound:=by rw[hsz];exact hb1
       refine Aa (hg _ _ _ ?_)
       refine Aa (HY ho1 rfl ?_ (Fl hb2))
       have ho2:((s.heap.update a (E7 es1 t2)).update a (E7 es2 t3)).get? a=some { o with data:=.set es2 (ep+1+1) t3 }:=by
         have:=Bp (E7 es2 t3) ho1 (by rw[HJ es2 t3 rfl];rfl)
         rw[HJ (o:={ o with data:=.set es1 (ep+1) t2 }) es2 t3 rfl] at this;exact this
       have hss2:=hp.map (fun e:Int×Value=>fz e.2)
       refine Ae ⟨rfl,_,es2.toList.map (fun e=>fz e.2),rfl,hsb1.trans (Cz _ a _),⟨_,es2,ep+1+1,t3,ho2,hex,rfl,hel1.perm hp,rfl,hss2.nodup_iff.mpr hnd1,hb2,hfr,hlr.trans (hl2.trans hled),fun _=>?_⟩,hss2.trans hss1⟩
       cases hq:t3.plain with
       | false=>rfl
       | true=>rw[hpr hq] at hp2;cases hp2
     . exact Ae ⟨rfl,_,es1.toList.map (fun e=>fz e.2),rfl,hsb1,⟨_,es1,ep+1,t2,ho1,hex,rfl,hel1,rfl,hnd1,hb1,hf2,hl2.trans hled,fun _=>hp2⟩,hss1⟩
   have fin:∀s':Shared,(∃h' ss',s'={ s with heap:=h' }/\Ck a s.heap h'/\SSet P w h' a ss'/\ss'.Perm (ss++[x]))->Q true s':=by
     rintro s' ⟨h',ss',rfl,hsb,hS',hp'⟩
     exact h h' ss' true hsb hS' (by rw[if_neg hx];exact hp')
   split
   . refine Aa ?_
     rw[hashByValue_scannable 8 (x:=.str x u) rfl]
     refine Ae ?_
     dsimp only[plainKind]
     simp only[Bo,if_false]
     refine BH (tail { t1 with plain:=false } (SetTable.fits_plain_off hfits) hled1 rfl _ ?_) (fun r s' hq=>?_) fun _ _ e=>e
     . intro b s₁ Q' hq;cases b<;>first|exact Ae hq|exact Cn hq
     . obtain⟨rfl,hq⟩:=hq
       exact Ae (fin s' hq)
   . rename_i hnp
     refine Aa (Ae ?_)
     simp only[↓reduceIte]
     refine BH (tail t1 hfits hled1 (by simpa using hnp) _ ?_) (fun r s' hq=>?_) fun _ _ e=>e
     . intro b s₁ Q' hq;cases b<;>first|exact Ae hq|exact Cn hq
     . obtain⟨rfl,hq⟩:=hq
       exact Ae (fin s' hq)
end
inductive Dd:List Str->List Str->Prop
 | nil:Dd [] []
 | old {xs ss:List Str} {x:Str}:Dd xs ss->x∈ss->Dd (xs++[x]) ss
 | new {xs ss ss':List Str} {x:Str}:Dd xs ss->x∉ss->ss'.Perm (ss++[x])->Dd (xs++[x]) ss'
theorem Dd.mem {xs ss:List Str}(h:Dd xs ss):∀y,y∈ss↔y∈xs:=by
 induction h with
 | nil=>intro y;exact IR
 | old d hx ih =>
   rename_i zs ss x
   intro y
   rw[ih y,Al,As]
   constructor
   . exact .inl
   . rintro (q|rfl)
     . exact q
     . exact (ih y).mp hx
 | new d hx hp ih =>
   rename_i zs ss ss' x
   intro y
   rw[hp.mem_iff,Al,Al,ih y]
theorem Dd.nodup {xs ss:List Str}(h:Dd xs ss):ss.Nodup:=by
 induction h with
 | nil=>exact Gs
 | old d hx ih=>exact ih
 | new d hx hp ih =>
   rename_i zs ss ss' x
   refine hp.nodup_iff.mpr (CS.mpr ⟨ih,by simp,fun y hy z hz e=>?_⟩)
   rw[As.mp hz] at e
   exact hx (e ▸ hy)
theorem Dd.len {xs ss:List Str}(h:Dd xs ss):ss.length<=xs.length:=by
 induction h with
 | nil=>exact Aj _
 | old d hx ih=>rw[Ag];exact A0 ih (Bu _ _)
 | new d hx hp ih=>rw[hp.length_eq,Ag,Ag];exact Hk ih _
theorem a06:∀{vs:List Value}{xs:List Str},StrsAre vs xs->∀(i:Nat) (v:Value),vs[i]? = some v->∃x t,xs[i]? = some x/\v=.str x t
 | _,_,.nil,i,v,h=>by simp at h
 | _,_,.cons x t r,0,v,h=>by simp at h;exact⟨x,t,rfl,h.symm⟩
 | _,_,.cons x t r,i+1,v,h=>by
   obtain⟨y,u,e1,e2⟩:=a06 r i v (by simpa using h)
   exact⟨y,u,by simpa using e1,e2⟩
section
variable {P:Program}{w:World}{A:Around}{R:Result->Shared->Prop}{I:Addr}{fp wr:List Addr}{G:Array GenState->Array GenState->Prop}{n:Nat}{Pv:Nat->Value->Prop}{St:Nat->Shared->Prop}
theorem SSet.at {h h':Heap}{a:Addr}{ss:List Str}(hS:SSet P w h a ss) (k:∀o,h.get? a=some o->h'.get? a=some o):SSet P w h' a ss:=by
 obtain⟨o,es,ep,tb,ho,rest⟩:=hS
 exact⟨o,es,ep,tb,k o ho,rest⟩
theorem pk (W:WalksS P w A.in1 I fp wr G n Pv St) (S:Addr) (hSf:S∉fp) (xs:List Str) (hn:xs.length=n) (hval:∀i v,Pv i v->∃x t,xs[i]? = some x/\v=.str x t) (hb:n+1<scanBound) :
   ∀(k i:Nat) (s:Shared) (ss:List Str),n - i=k->i<=n->St i s->SSet P w s.heap S ss->Dd (xs.take i) ss->
     (∀s' ss',Moved (S::wr) G s s'->SSet P w s'.heap S ss'->Dd xs ss'->R (.ok (.ret .none)) s')->
     codeAny (model P w) A (.builtin "set.update.loop" ⟨[.ref S,.ref I],[]⟩) R s:=by
 have hSw:S∉wr:=fun h=>hSf (W.sub _ h)
 have hsub:∀b∈wr,b∈S::wr:=fun b hb=>An _ hb
 intro k
 induction k with
 | zero =>
   intro i s ss hk hi hst hS hd hR
   have hin:i=n:=by omega
   subst hin
   refine By DW ?_
   rw[Bn CH _]
   show wpAny _ A.in1 (pyNext (.ref I) >>= _) _ _ s
   refine Aa (W.done s _ _ hst fun s' hm=>?_)
   show wpAny _ A.in1 (ret Value.none) _ _ s'
   refine Ae (hR s' ss (hm.mono hsub) (hS.at fun o e=>hm.heap S _ hSw e) ?_)
   rw[Bm (HB hn)] at hd
   exact hd
 | succ k ih =>
   intro i s ss hk hi hst hS hd hR
   have hlt:i<n:=by omega
   refine By DW ?_
   rw[Bn CH _]
   show wpAny _ A.in1 (pyNext (.ref I) >>= _) _ _ s
   refine Aa (W.item i s _ _ hlt hst fun v s' hP hst' hm=>?_)
   obtain⟨x,t,hx,rfl⟩:=hval i v hP
   have hS':SSet P w s'.heap S ss:=hS.at fun o e=>hm.heap S _ hSw e
   show wpAny _ A.in1 (holding [Value.str x t] (setAdd S (.str x t)) >>= _) _ _ s'
   refine Aa (AS ?_)
   unfold setAdd
   refine AS ?_
   refine Aa ((strKind P w).pyHash (k:=x) (Fs _ _ _ _) ?_)
   have hl:ss.length<=i:=by have:=hd.len;rw[AG] at this;omega
   refine a65 (s:={ s' with toks:=s'.toks+1 }) hS' (by omega) fun h' ss' b hsb hS2 hss=>?_
   have hd':Dd (xs.take (i+1)) ss':=by
     have e:xs.take (i+1)=xs.take i++[x]:=by rw[BY,hx];rfl
     rw[e]
     by_cases hm:x∈ss
     . rw[if_pos hm] at hss
       rw[hss]
       exact .old hd hm
     . rw[if_neg hm] at hss
       exact .new hd hm hss
   refine Ae ⟨BJ CH _,ih (i+1) _ ss' (by omega) hlt (W.frame _ s' _ _ hst' (Du _) fun b hb o e=>?_) hS2 hd' fun s'' ss'' hm'' hS'' hd''=>?_⟩
   . rw[hsb.2 b (fun h:b=S=>hSf (by rw[<- h];exact hb))];exact e
   . refine hR s'' ss'' (Moved.trans W.gtrans ((hm.mono hsub).then_heap (Du _) fun b o hb e=>?_) hm'') hS'' hd''
     rw[hsb.2 b (fun h:b=S=>hb (by rw[h];exact Ah))];exact e
end
section
variable {P:Program}{w:World}{A:Around}{E:Value->Shared->Prop}{s:Shared}
theorem pw (a:Value) {Q₁:Value->Shared->Prop}
   (h:Q₁ (.ref s.heap.objs.size) { s with heap:=s.heap.push { cls:=.type "set",dict:=none,data:=.set #[] 0 (.fresh 0 0 (!w.params.followText "set-order")) } }) :
   codeAny (model P w) A (.call (.builtin "set.__new__") ⟨[.type "set",a],[]⟩) (wants Q₁ E) s:=by
 refine codeAny_of_tree ?_
 show wpAny _ A.in1 (do checkBuiltinCall "set.__new__" ⟨[.type "set",a],[]⟩;again (.builtin "set.__new__" ⟨[.type "set",a],[]⟩)) _ _ s
 refine Aa (EV (PySem.F.newCall_set_1 a) (Ae ⟨BJ Gu _,By PySem.F.entry_set_new ?_⟩))
 rw[Bn Gu _]
 unfold Builtin.«set.__new__» Builtin.Frozenset.newClass
 have hsub:=sub_set_self
 obtain⟨hp,g,d,tk,os⟩:=s
 dsimp only
 wp_walk
 refine FC (Ae ?_)
 dsimp only
 simp only[newObj]
 refine Aa (wpAny_alloc (Ae ?_))
 exact Ae h
set_option maxHeartbeats 16000000 in
theorem uf {l:Addr}{items:Array Value}{xs:List Str}{Q:Value->Shared->Prop}
   (hh:A.handled=none) (hl:s.heap.IsList l items) (hi:StrsAre items.toList xs) (hb:items.size+1<scanBound)
   (h:∀(h':Heap) (tk:Nat) (ss:List Str),SSet P w h' s.heap.objs.size ss->Dd xs ss->(∀b o,b<s.heap.objs.size->s.heap.get? b=some o->h'.get? b=some o)->Q (.ref s.heap.objs.size) { s with heap:=h',toks:=tk }) :
   wpAny (model P w) A (call (.type "set") [.ref l]) Q E s:=by
 obtain⟨c,tl,hmro⟩:=PySem.F.called_set.mro
 have hmade:=PySem.F.called_set.made
 have hsub:=PySem.F.called_set.sub
 refine Hg (codeAny_of_tree ?_)
 show wpAny _ _ (callAny (.type "set") _) _ _ _
 refine Ae ⟨Code.quiet_builtin _ (by decide +kernel),By PySem.F.entry_type_call ?_⟩
 rw[Around.under_plain (weight_type_call_type "set" [.ref l] []) rfl]
 have h1:=PySem.F.called_set.notType
 have h2:=PySem.F.called_set.canCreate
 have hct:=PySem.F.typeCall_set_1 (.ref l)
 repeat (any_goals (first|assumption|wp_step))
 refine DB (pw (.ref l) (E:=E) (Q₁:=fun obj s₁=>obj=.ref s.heap.objs.size/\s₁={ s with heap:=s.heap.push { cls:=.type "set",dict:=none,data:=.set #[] 0 (.fresh 0 0 (!w.params.followText "set-order")) } }) ⟨rfl,rfl⟩) fun r s₁ hr=>?_
 cases r with
 | error e=>exact hr
 | ok fl =>
   cases fl with
   | ret obj =>
     obtain⟨rfl,rfl⟩:=hr
     generalize hled:(!w.params.followText "set-order")=led
     have hS:(s.heap.push { cls:=.type "set",dict:=none,data:=.set #[] 0 (.fresh 0 0 led) }).get? s.heap.objs.size=some { cls:=.type "set",dict:=none,data:=.set #[] 0 (.fresh 0 0 led) }:=Ak _ rfl
     have hT:Hr { s with heap:=s.heap.push { cls:=.type "set",dict:=none,data:=.set #[] 0 (.fresh 0 0 led) } } (.ref s.heap.objs.size) "set" := ⟨_,hS,rfl⟩
     have hli:=PySem.F.called_set.init.lookup
     have hbi:=PySem.F.called_set.init.bind (.ref s.heap.objs.size)
     repeat (any_goals (first|assumption|wp_step))
     refine DB (DH (R:=wants (fun r s₂=>r=.none/\∃h' tk ss,s₂={ s with heap:=h',toks:=tk }/\SSet P w h' s.heap.objs.size ss/\Dd xs ss/\
         (∀b o,b<s.heap.objs.size->s.heap.get? b=some o->h'.get? b=some o)) E) PySem.F.called_set.init.plain PySem.F.entry_set_init (check_set_init_1 hT ?_)) fun r₂ s₂ hr₂=>?_
     . obtain⟨ol,hol,hcl,nl,hdl⟩:=hl
       obtain⟨ocls,odict,odata,oslots⟩:=ol
       simp only at hcl hdl
       subst hcl;subst hdl
       have hol':(s.heap.push { cls:=.type "set",dict:=none,data:=.set #[] 0 (.fresh 0 0 led) }).get? l=some { cls:=.type "list",dict:=odict,data:=.seq items nl,slots:=oslots }:=Ac _ hol
       have hsls:=PySem.F.sub_list_set
       have hslf:=PySem.F.sub_list_frozenset
       have hne:(Value.type "list" == Value.type "dict")=false:=by decide
       have hl1:(s.heap.push { cls:=.type "set",dict:=none,data:=.set #[] 0 (.fresh 0 0 led) }).IsList l items:=⟨_,hol',rfl,nl,rfl⟩
       unfold Builtin.«set.__init__» noKeywords Builtin.Frozenset.updateFrom
       generalize hPI:pyIter=PI
       wp_walk
       subst hPI
       refine Cw hl1 ?_
       refine Aa (wpAny_runValue ?_)
       have hlS:l<s.heap.objs.size:=Ap hol
       have hh3:A.in1.in1.in1.handled=none:=by simp[hh]
       have hneI:l≠(s.heap.push { cls:=.type "set",dict:=none,data:=.set #[] 0 (.fresh 0 0 led) }).objs.size:=by
         rw[Bh];exact Aw (Cy hlS)
       have hSf:s.heap.objs.size∉[(s.heap.push { cls:=.type "set",dict:=none,data:=.set #[] 0 (.fresh 0 0 led) }).objs.size,l]:=by
         rw[Bh];simp only[Aq,As,AE,or_false,not_or]
         exact⟨Aw (Ce _),BD hlS⟩
       have hlen:xs.length=items.size:=by have:=hi.length;simpa using this.symm
       have hval:∀(i:Nat) (v:Value),items[i]? = some v->∃x t,xs[i]? = some x/\v=.str x t:=fun i v hv=>a06 hi i v (by rw[BK];exact hv)
       refine pk ((IJ hh3 _ l hneI items).toS) s.heap.objs.size hSf xs hlen hval hb (items.size - 0) 0 _ [] (by omega) (A8 _)
         ⟨⟨_,Ak _ rfl,rfl,rfl⟩,(hl1.push _)⟩ ?hS0 (by rw[BL];exact .nil) ?hR
       case hS0 =>
         have hget:((s.heap.push { cls:=.type "set",dict:=none,data:=.set #[] 0 (.fresh 0 0 led) }).push { cls:=.type "list_iterator",data:=.fields #[.ref l,.int 0 0] }).get? s.heap.objs.size
             =some { cls:=.type "set",dict:=none,data:=.set #[] 0 (.fresh 0 0 led) }:=Ac _ hS
         exact⟨_,#[],0,_,hget,⟨rfl,rfl,rfl⟩,rfl,fun e he=>by simp at he,rfl,Gs,by decide,by rfl,hled.symm,fun q=>absurd q (by simp)⟩
       case hR =>
         intro s' ss' hm hS' hd'
         obtain⟨h',g',d',tk',os'⟩:=s'
         have eg:g'=s.gens:=hm.gens
         have ed:d'=s.drawn:=hm.drawn
         have eo:os'=s.os:=hm.os
         subst eg;subst ed;subst eo
         show wpAny _ _ _ _ _ _
         refine Ae ?_
         show wpAny _ _ (ret Value.none) _ _ _
         refine Ae ⟨rfl,h',tk',ss',rfl,hS',hd',fun b o hb e=>?_⟩
         have hb1:b≠s.heap.objs.size:=Aw hb
         have hb2:b≠(s.heap.push { cls:=.type "set",dict:=none,data:=.set #[] 0 (.fresh 0 0 led) }).objs.size:=by
           rw[Bh];exact Aw (Cy hb)
         exact hm.heap b o (by simp only[Aq,As,AE,or_false,not_or];exact⟨hb1,hb2⟩) (Ac _ (Ac _ e))
     . cases r₂ with
       | error e=>exact hr₂
       | ok fl₂ =>
         cases fl₂ with
         | ret r =>
           obtain⟨rfl,h',tk,ss,rfl,hS',hd',hk'⟩:=hr₂
           repeat (any_goals (first|assumption|wp_step))
           exact h _ _ ss hS' hd' hk'
         | _=>exact hr₂.elim
   | _=>exact hr.elim
end
namespace SF
theorem entry_set_iter:entryFor table "set.__iter__" = some Builtin.«frozenset.__iter__» := Gv (id' := "frozenset.__iter__") (by kernel_rfl) rfl (by decide +kernel) (by kernel_rfl)
theorem slot_next:Slot "set_iterator" "__next__" "set_iterator.__next__" :=
 .of (owner := "set_iterator") (n := "__next__") (by rw[CL,Cc];kernel_rfl) (by decide +kernel) (by decide +kernel) (by decide +kernel)
   (by first|exact .inl (by decide +kernel)|exact .inr (by decide +kernel)) (by rw[Ec];kernel_rfl)
theorem entry_next:entryFor table "set_iterator.__next__" = some Builtin.«set_iterator.__next__» := entryFor_of_tree (by kernel_rfl)
theorem args_next (a:Value):argsOk "set_iterator.__next__" ⟨[a],[]⟩:=by unfold argsOk;kernel_rfl
theorem slot_self:Slot "set_iterator" "__iter__" "set_iterator.__iter__" :=
 .of (owner := "set_iterator") (n := "__iter__") (by rw[CL,Cc];kernel_rfl) (by decide +kernel) (by decide +kernel) (by decide +kernel)
   (by first|exact .inl (by decide +kernel)|exact .inr (by decide +kernel)) (by rw[Ec];kernel_rfl)
theorem entry_self:entryFor table "set_iterator.__iter__" = some Builtin.«dict_keyiterator.__iter__» :=
 Gv (id' := "dict_keyiterator.__iter__") (by kernel_rfl) rfl (by decide +kernel) (by kernel_rfl)
theorem args_self (a:Value):argsOk "set_iterator.__iter__" ⟨[a],[]⟩:=by unfold argsOk;kernel_rfl
theorem set_len:typeLookup (.type "set") "__len__" = pure (some (.builtin "set.__len__")):=by rw[CL,Cc];kernel_rfl
theorem sub_set:isSubtype (.type "set") (.type "set")=pure true:=by rw[Ec];kernel_rfl
end SF
open PySem PySem.Spec PyProof.Rows
theorem jy {α:Type}:∀(l:List α) (i:Nat) (h:i<l.length),(l[i]::l.eraseIdx i).Perm l
 | x::r,0,_=>EK _
 | x::r,i+1,h=>by
   have h':i<r.length:=by simpa using h
   exact (List.Perm.swap x r[i] (r.eraseIdx i)).trans ((jy r i h').cons x)
theorem og {α:Type}(next:Nat->Nat):∀(fuel k:Nat) (left:List α) (out:Array α),left.length=fuel->(HK next fuel k left out).toList.Perm (out.toList++left)
 | 0,k,left,out,h=>by
   have e:left=[]:=Bi h
   subst e
   simp[HK]
 | fuel+1,k,left,out,h=>by
   have hlt:next k % left.length<left.length:=E8 _ (by omega)
   unfold HK
   rw[Af hlt]
   dsimp only
   refine (og next fuel (k+1) _ _ (by rw[Fh hlt];omega)).trans ?_
   rw[HX,Ci]
   refine List.Perm.append_left _ ?_
   rw[Gw]
   exact jy _ _ hlt
theorem tu {α:Type}(next:Nat->Nat) (xs:Array α):(pickOrder next xs).toList.Perm xs.toList:=by
 have:=og next xs.size 0 xs.toList #[] (by simp)
 simpa [pickOrder] using this
section
variable {P:Program}{w:World}{A:Around}{E:Value->Shared->Prop}
theorem a1i {src:Source}{n:Nat}{s:Shared}{Q:Nat->Shared->Prop}(hn:n≠0) (h:∀i d,i<n->Q i { s with drawn:=d }):wpAny (model P w) A (choose src n) Q E s:=by
 intro Γ p hΓ
 unfold choose
 rw[Sem.wp_choose]
 exact⟨hn,h _ _ (E8 _ (Nat.pos_of_ne_zero hn))⟩
theorem jp {α:Type}:∀(n:Nat) (xs:List α) (s:Shared) (Q:List α->Shared->Prop),xs.length=n->(∀ys d,ys.Perm xs->Q ys { s with drawn:=d })->wpAny (model P w) A (drawOrder n xs) Q E s
 | 0,xs,s,Q,hl,h=>by
   have e:xs=[]:=Bi hl
   subst e
   exact Ae (h [] s.drawn (EK _))
 | n+1,[],s,Q,hl,h=>by simp at hl
 | n+1,x::r,s,Q,hl,h=>by
   unfold drawOrder
   refine Aa (a1i (by rw[hl];exact Nat.succ_ne_zero n) fun i d hi=>?_)
   rw[Af hi]
   dsimp only
   refine Aa (jp n _ _ _ (by rw[Fh hi];omega) fun ys d' hp=>?_)
   refine Ae (h _ d' ?_)
   exact (hp.cons _).trans (jy _ _ hi)
end
theorem tw {α:Type}:∀l:List α,(DF l.length).filterMap (fun i=>l[i]?)=l
 | []=>rfl
 | x::r=>by
   rw[AD,List.range_succ_eq_map,Dh]
   simp only[List.getElem?_cons_zero]
   rw[HF]
   exact congrArg (x :: ·) (tw r)
noncomputable def uo (first:Value) (i:Nat) (S:Addr) (n ep:Nat):Obj:={ cls:=.type "set_iterator",dict:=none,data:=.fields #[first,.int i 0,.ref S,.int n 0,.int ep 0],slots := #[] }
inductive Ord (w:World) (S:Addr) (es:Array (Int×Value)) (ep:Nat) (t:SetTable) (h:Heap):Value->Nat->List Value->Prop
 | text (i:Nat):w.params.followText "set-order" = true->Ord w S es ep t h (.int 0 0) i ((pickOrder (w.params.setOrder S ep) es).toList.map (·.2))
 | drawn (i:Nat) (T:Addr) (ps:List Nat):w.params.followText "set-order" = false->IsTup h T (ps.map fun (p:Nat)=>Value.int p 0).toArray->(∀p∈ps,p<es.size)->Ord w S es ep t h (.ref T) i (ps.filterMap fun p=>(es[p]?).map (·.2))
 | none (k i:Nat):w.params.followText "set-order" = false->es.size=0->Ord w S es ep t h (.int k 0) i []
 | one0 (e:Int×Value):w.params.followText "set-order" = false->es = #[e]->Ord w S es ep t h (.int 0 0) 0 [e.2]
 | one1 (e:Int×Value) (j:Nat):w.params.followText "set-order" = false->es = #[e]->t.place = #[j]->Ord w S es ep t h (.int (j+1:Nat) 0) 1 [e.2]
noncomputable def a6y (P:Program) (w:World) (S I T0:Addr) (es:Array (Int×Value)) (ep:Nat) (t:SetTable) (ord:List Value) (i:Nat) (h:Heap):Prop :=
 ∃first o,h.get? I=some (uo first i S es.size ep)/\h.get? S=some o/\o.data=.set es ep t/\Ord w S es ep t h first i ord/\∀T,first=.ref T->T=T0
section
variable {P:Program}{w:World}{A:Around}{E:Value->Shared->Prop}{s:Shared}
theorem aa6 (j:Nat):EL #[j] (j+1)=1:=by
 simp[EL,HZ]
theorem a9l (j:Nat):EL #[j] 0=0:=by
 simp[EL,HZ]
theorem m9 {Q:Bool->Shared->Prop}(h:Q (w.params.followText "set-order") s):wpAny (model P w) A setsByText Q E s:=by
 unfold setsByText
 exact Aa (FC (Ae h))
theorem qi {S:Addr}{es:Array (Int×Value)}{ep i k:Nat}{t:SetTable}{ord:List Value}{o:Obj}{Q:Option (Value×Nat)->Shared->Prop}(ho:s.heap.get? S=some o) (hd:o.data=.set es ep t) (hf:t.fits es.size=true)
   (hled:t.led = !w.params.followText "set-order") (od:Ord w S es ep t s.heap (.int (k:Int) 0) i ord)
   (h:∀k':Nat,(∀v,ord[i]? = some v->Ord w S es ep t s.heap (.int (k':Int) 0) (i+1) ord)->Q ((ord[i]?).map fun v=>(v,k')) s):wpAny (model P w) A (setNext S k i ep) Q E s:=by
 unfold setNext
 refine Aa (Dz ho hd hf ?_)
 dsimp only
 refine Aa (m9 ?_)
 generalize hk:(k:Int)=ki at od
 generalize hfst:Value.int ki 0=first at od
 cases od with
 | text i ht =>
   cases hfst
   obtain rfl:k=0:=by omega
   rw[ht]
   simp only[if_true,bne_self_eq_false,Bo,if_false]
   unfold setWalk
   refine Aa ?_
   refine Aa (Dz ho hd hf ?_)
   dsimp only
   refine Aa (m9 ?_)
   rw[ht]
   simp only[if_true]
   refine Aa (FC (Ae ?_))
   refine Ae ?_
   have:=h 0 fun v _=>Ord.text (i+1) ht
   rw[Ai,BK] at this
   rw[Option.map_map] at this
   exact this
 | drawn=>cases hfst
 | none k' i ht h0 =>
   cases hfst
   rw[ht]
   have e0:es = #[]:=E9 h0
   subst e0
   have hl:t.led=true:=by rw[hled,ht];rfl
   rw[if_neg Am]
   split
   . rename_i hdr
     have hdr':(!t.plain && decide ((#[]:Array (Int×Value)).size>1))=true:=hdr
     simp at hdr'
   . refine Aa (show wpAny (model P w) A (if (!t.led && !(#[]:Array (Int×Value)).isEmpty)=true then unsupported "set:maker-not-led" else pure ()) _ _ _ from ?_)
     rw[hl]
     refine Ae (Ae ?_)
     have:=h k fun v e=>by simp at e
     simpa using this
 | one0 e ht he =>
   cases hfst
   obtain rfl:k=0:=by omega
   rw[ht]
   subst he
   have hl:t.led=true:=by rw[hled,ht];rfl
   have hpz:t.place.size=1:=by
     simp only[SetTable.fits,BR,beq_iff_eq] at hf
     exact hf.1
   obtain⟨j,hj⟩:∃j,t.place = #[j]:=by
     generalize t.place=pl at hpz
     obtain⟨l⟩:=pl
     match l,hpz with
     | [j],_=>exact⟨j,rfl⟩
   rw[if_neg Am]
   split
   . rename_i hdr
     have hdr':(!t.plain && decide ((#[e]:Array (Int×Value)).size>1))=true:=hdr
     simp at hdr'
   . refine Aa (show wpAny (model P w) A (if (!t.led && !(#[e]:Array (Int×Value)).isEmpty)=true then unsupported "set:maker-not-led" else pure ()) _ _ _ from ?_)
     rw[hl]
     refine Ae (Ae ?_)
     rw[hj,a9l]
     exact h (j+1) fun v _=>Ord.one1 e j ht rfl hj
 | one1 e j ht he hp =>
   cases hfst
   obtain rfl:k=j+1:=by omega
   rw[ht]
   subst he
   have hl:t.led=true:=by rw[hled,ht];rfl
   rw[if_neg Am]
   split
   . rename_i hdr
     have hdr':(!t.plain && decide ((#[e]:Array (Int×Value)).size>1))=true:=hdr
     simp at hdr'
   . refine Aa (show wpAny (model P w) A (if (!t.led && !(#[e]:Array (Int×Value)).isEmpty)=true then unsupported "set:maker-not-led" else pure ()) _ _ _ from ?_)
     rw[hl]
     refine Ae (Ae ?_)
     rw[hp,aa6]
     exact h 0 fun v e=>by simp at e
theorem Ord.keep {S:Addr}{es:Array (Int×Value)}{ep i:Nat}{t:SetTable}{ord:List Value}{first:Value}{h h':Heap}(od:Ord w S es ep t h first i ord) (k:∀T o,first=.ref T->h.get? T=some o->h'.get? T=some o):Ord w S es ep t h' first i ord:=by
 cases od with
 | text i ht=>exact .text i ht
 | drawn i T ps ht hT hp =>
   obtain⟨o,e,c⟩:=hT
   exact .drawn i T ps ht ⟨o,k T o rfl e,c⟩ hp
 | none kk i ht h0=>exact .none kk i ht h0
 | one0 e ht he=>exact .one0 e ht he
 | one1 e j ht he hp=>exact .one1 e j ht he hp
theorem Ord.kind {S:Addr}{es:Array (Int×Value)}{ep i:Nat}{t:SetTable}{ord:List Value}{first:Value}{h:Heap}(od:Ord w S es ep t h first i ord) :
   (∃k:Nat,first=.int (k:Int) 0)\/∃(T:Addr) (ps:List Nat),first=.ref T/\w.params.followText "set-order" = false/\IsTup h T (ps.map fun (p:Nat)=>Value.int p 0).toArray/\(∀p∈ps,p<es.size)/\ord=ps.filterMap fun p=>(es[p]?).map (·.2):=by
 cases od with
 | text i ht=>exact .inl ⟨0,rfl⟩
 | drawn i T ps ht hT hp=>exact .inr ⟨T,ps,rfl,ht,hT,hp,rfl⟩
 | none k i ht h0=>exact .inl ⟨k,rfl⟩
 | one0 e ht he=>exact .inl ⟨0,rfl⟩
 | one1 e j ht he hp=>exact .inl ⟨j+1,rfl⟩
theorem Ord.step {S:Addr}{es:Array (Int×Value)}{ep i:Nat}{t:SetTable}{ord:List Value}{T:Addr}{h:Heap}(od:Ord w S es ep t h (.ref T) i ord):Ord w S es ep t h (.ref T) (i+1) ord:=by
 cases od with
 | drawn i T ps ht hT hp=>exact .drawn (i+1) T ps ht hT hp
end
theorem wz {es:Array (Int×Value)}:∀{ps:List Nat},(∀p∈ps,p<es.size)->∀(i:Nat),(ps.filterMap fun p=>(es[p]?).map (·.2))[i]? = (ps[i]?).bind fun p=>(es[p]?).map (·.2)
 | [],_,i=>by simp
 | p::r,hp,i=>by
   have h1:p<es.size:=hp p (by simp)
   have e:es[p]? = some es[p]:=by simp[h1]
   rw[Dh,e]
   cases i with
   | zero=>simp[e]
   | succ i=>simpa using wz (fun q hq=>hp q (An _ hq)) i
section
variable {P:Program}{w:World}{A:Around}
theorem a2h (hh:A.handled=none) {S I:Addr}{es:Array (Int×Value)}{ep:Nat}{t:SetTable}{ord:List Value}(fp:List Addr) (hI:I∈fp) (hS:S∈fp) (hne:S≠I) (hf:t.fits es.size=true) (hled:t.led = !w.params.followText "set-order")
   {T0:Addr} (hT:T0∈fp) (hTI:T0≠I) :
   Walks P w A I fp [I] ord.length (fun i v=>ord[i]? = some v) (a6y P w S I T0 es ep t ord) where
 sub:=fun b hb=>by rw[As.mp hb];exact hI
 frame:=fun i h h' st hk=>by
   obtain⟨first,o,h1,h2,h3,h4,h5⟩:=st
   exact⟨first,o,hk I hI _ h1,hk S hS _ h2,h3,h4.keep (fun T o e q=>hk T (by rw[h5 T e];exact hT) o q),h5⟩
 item:=fun i s Q E hi st hQ=>by
   obtain⟨first,o,h1,h2,h3,h4,h5⟩:=st
   have ty:s.TypeIs (.ref I) "set_iterator" := ⟨_,h1,rfl⟩
   unfold pyNext
   refine Aa (CO (Bc (name:=Bq "__next__") ty SF.slot_next (Bj SF.slot_next ty SF.entry_next ?_ (SF.args_next _))))
   show wpAny _ _ (fieldsOf (.ref I) >>= _) _ _ s
   refine Aa (EM h1 rfl ?_)
   show wpAny _ _ (setEntries S >>= _) _ _ s
   refine Aa (EE h2 h3 hf ?_)
   simp only[bne_self_eq_false,Bo,if_false]
   have hv:ord[i]? = some ord[i]:=Af hi
   rcases h4.kind with⟨k,rfl⟩|⟨T,ps,rfl,ht,hTt,hps,hord⟩
   . show wpAny _ _ (setNext S (Dq (k:Int)) (Dq (i:Int)) (Dq (ep:Int)) >>= _) _ _ s
     simp only[BI]
     refine Aa (qi h2 h3 hf hled h4 fun k' hk'=>?_)
     rw[hv]
     show wpAny _ _ (setField (.ref I) 0 (rawInt k') >>= _) _ _ s
     refine Aa (Bf h1 (by simp) fun ha ha1 ha2=>?_)
     refine Aa (Bf ha1 (by simp) fun hb hb1 hb2=>?_)
     refine Ae ⟨_,rfl,Ae (hQ _ hb s.toks hv ⟨.int (k':Int) 0,o,hb1,?_,h3,(hk' _ hv).keep (fun T o e=>by cases e),(fun T e=>by cases e)⟩ fun b o hb' e=>?_)⟩
     . rw[hb2.2 S hne,ha2.2 S hne];exact h2
     . have:b≠I:=fun z=>hb' (by simp[z])
       rw[hb2.2 b this,ha2.2 b this];exact e
   . have hTne:T≠I:=by rw[h5 T rfl];exact hTI
     have hg:=wz hps i
     rw[<- hord,hv] at hg
     cases hpi:ps[i]? with
     | none=>rw[hpi] at hg;cases hg
     | some p =>
       rw[hpi] at hg
       have hp:p<es.size:=hps p (Ar hpi)
       have hep:es[p]? = some es[p]:=by simp[hp]
       have hg':some ord[i]=(es[p]?).map (·.2):=hg
       rw[hep] at hg'
       have hval:ord[i]=es[p].2:=Ay hg'
       show wpAny _ _ (seqItems? (.ref T) >>= _) _ _ s
       obtain⟨oT,eT,cT,nT,dT⟩:=hTt
       refine Aa (Bb eT dT ?_)
       dsimp only
       have hpl:((ps.map fun (p:Nat)=>Value.int p 0).toArray)[Dq (i:Int)]? = some (.int (p:Int) 0):=by
         rw[BI,BM,Ai,hpi];rfl
       rw[hpl]
       show wpAny _ _ (setNextDrawn S (Dq (p:Int)) (Dq (ep:Int)) >>= _) _ _ s
       simp only[BI]
       unfold setNextDrawn
       refine Aa (Aa (Dz h2 h3 hf ?_))
       simp only[bne_self_eq_false,Bo,if_false]
       rw[hep]
       refine Ae ?_
       refine Aa (Bf h1 (by simp) fun hb hb1 hb2=>?_)
       refine Ae ⟨_,rfl,Ae (hQ _ hb s.toks (by rw[hv,hval];rfl) ⟨.ref T,o,hb1,?_,h3,h4.step.keep (fun T' o e q=>?_),h5⟩ fun b o hb' e=>?_)⟩
       . rw[hb2.2 S hne];exact h2
       . cases e;rw[hb2.2 T hTne];exact q
       . have:b≠I:=fun z=>hb' (by simp[z])
         rw[hb2.2 b this];exact e
 done:=fun s Q E st hQ=>by
   obtain⟨first,o,h1,h2,h3,h4,h5⟩:=st
   have ty:s.TypeIs (.ref I) "set_iterator" := ⟨_,h1,rfl⟩
   have hv:ord[ord.length]? = none:=Bt (Aj _)
   have stop:∀h':Heap,(∀b o,b≠I->s.heap.get? b=some o->h'.get? b=some o)->wpAny (model P w) A.in1 (do raiseNew (<- newExc (.type "StopIteration") []):Sem Fin) (fun _ _=>False)
       (fun x s'=>wpAny (model P w) A (do let b<-isInstance x (.type "StopIteration");if b=true then pure Option.none else throw x) Q E s') { s with heap:=h' }:=by
     intro h' hk
     refine Aa ?_
     simp only[newExc,newTuple]
     refine Aa (AV ?_ (by size_fits))
     refine Aa (m:=firstArgMember _ _) (EV (a:=Value.none) (by first|rfl|(simp only[firstArgMember];rfl)) ?_)
     refine AV ?_ (by size_fits)
     simp only[raiseNew]
     refine Aa (wpAny_handled ?_)
     rw[show A.in1.handled=none from hh]
     refine Aa (Ae (wpAny_throw ?_))
     refine Aa (DJ (T := "StopIteration") (b:=true) ⟨_,Ak _ rfl,rfl⟩ EN ?_)
     exact Ae (hQ _ _ fun b o hb e=>Ac _ (Ac _ (hk b o (fun z=>hb (by simp[z])) e)))
   unfold pyNext
   refine Aa (CO (Bc (name:=Bq "__next__") ty SF.slot_next (Bj SF.slot_next ty SF.entry_next ?_ (SF.args_next _))))
   show wpAny _ _ (fieldsOf (.ref I) >>= _) _ _ s
   refine Aa (EM h1 rfl ?_)
   show wpAny _ _ (setEntries S >>= _) _ _ s
   refine Aa (EE h2 h3 hf ?_)
   simp only[bne_self_eq_false,Bo,if_false]
   rcases h4.kind with⟨k,rfl⟩|⟨T,ps,rfl,ht,hTt,hps,hord⟩
   . show wpAny _ _ (setNext S (Dq (k:Int)) (Dq (ord.length:Int)) (Dq (ep:Int)) >>= _) _ _ s
     simp only[BI]
     refine Aa (qi h2 h3 hf hled h4 fun k' hk'=>?_)
     rw[hv]
     show wpAny _ _ (setField (.ref I) 2 .none >>= _) _ _ s
     refine Aa (Bf h1 (by simp) fun ha ha1 ha2=>?_)
     refine BH (stop ha fun b o hb e=>by rw[ha2.2 b hb];exact e) (fun _ _ z=>z.elim) fun x s' z=>?_
     exact z
   . have hpi:ps[ord.length]? = none:=by
       have hg:=wz hps ord.length
       rw[<- hord,hv] at hg
       cases hpi:ps[ord.length]? with
       | none=>rfl
       | some p =>
         rw[hpi] at hg
         have hp:p<es.size:=hps p (Ar hpi)
         have hep:es[p]? = some es[p]:=by simp[hp]
         have hg':(none:Option Value)=(es[p]?).map (·.2):=hg
         rw[hep] at hg'
         cases hg'
     show wpAny _ _ (seqItems? (.ref T) >>= _) _ _ s
     obtain⟨oT,eT,cT,nT,dT⟩:=hTt
     refine Aa (Bb eT dT ?_)
     dsimp only
     have hpl:((ps.map fun (p:Nat)=>Value.int p 0).toArray)[Dq (ord.length:Int)]? = none:=by
       rw[BI,BM,Ai,hpi];rfl
     rw[hpl]
     show wpAny _ _ (setField (.ref I) 0 (rawInt 0) >>= _) _ _ s
     refine Aa (Bf h1 (by simp) fun ha ha1 ha2=>?_)
     refine Aa (Bf ha1 (by simp) fun hb hb1 hb2=>?_)
     refine BH (stop hb fun b o hb' e=>by rw[hb2.2 b hb',ha2.2 b hb'];exact e) (fun _ _ z=>z.elim) fun x s' z=>?_
     exact z
 self:=fun i s Q E st hQ=>by
   obtain⟨first,o,h1,h2,h3,h4,h5⟩:=st
   have ty:s.TypeIs (.ref I) "set_iterator" := ⟨_,h1,rfl⟩
   refine Fm ty SF.slot_self (Bj SF.slot_self ty SF.entry_self ?_ (SF.args_self _))
   show wpAny _ _ (ret (.ref I)) _ _ s
   exact Ae ⟨_,rfl,"set_iterator",_,ty,SF.slot_next.lookup,hQ⟩
theorem y9 {E:Value->Shared->Prop}{s:Shared}{S:Addr}{ss:List Str}{Q:Value->Shared->Prop}(hS:SSet P w s.heap S ss)
   (h:∀(h':Heap) (d':Drawn) (I:Addr) (fp:List Addr) (ord:List Value) (St:Nat->Heap->Prop),(∀b o,s.heap.get? b=some o->h'.get? b=some o)->s.heap.objs.size<=I->I∈fp->(∀b∈fp,b<h'.objs.size/\(b=S\/s.heap.objs.size<=b))->
     (∀A':Around,A'.handled=none->Walks P w A' I fp [I] ord.length (fun i v=>ord[i]? = some v) St)->St 0 h'->(∃ys,StrsAre ord ys/\ys.Perm ss)->Q (.ref I) { s with heap:=h',drawn:=d' }) :
   wpAny (model P w) A (pyIter (.ref S)) Q E s:=by
 obtain⟨o,es,ep,t,ho,hex,hd,hel,hss,hnd,hb,hf,hled,hpl⟩:=hS
 have ty:s.TypeIs (.ref S) "set" := ⟨o,ho,hex.1⟩
 have hlt:S<s.heap.objs.size:=Ap ho
 have hstr:∀l:List (Int×Value),(∀e∈l,e∈es.toList)->StrsAre (l.map (·.2)) (l.map fun e=>fz e.2):=by
   intro l
   induction l with
   | nil=>intro _;exact .nil
   | cons e r ih =>
     intro hm
     obtain⟨u,hu⟩:=tq hel (hm e (by simp))
     have:=StrsAre.cons (fz e.2) u (ih fun x hx=>hm x (An _ hx))
     rw[<- hu] at this
     exact this
 refine Fm ty Gx (Bj Gx ty SF.entry_set_iter ?_ (PySem.F.args_set_iter_1 _))
 show wpAny _ _ (FE S >>= _) _ _ s
 unfold FE
 refine Aa (Aa (EE ho hd hf (Ae ?_)))
 unfold setDrawn
 refine Aa (Aa (Dz ho hd hf ?_))
 dsimp only
 refine Aa (m9 (Ae ?_))
 have make:∀(first:Value) (T0:Addr) (ord:List Value) (h1:Heap) (d1:Drawn),(∀b ob,s.heap.get? b=some ob->h1.get? b=some ob)->s.heap.objs.size<=h1.objs.size->(∀T,first=.ref T->T=T0)->T0<h1.objs.size->(T0=S\/s.heap.objs.size<=T0)->Ord w S es ep t h1 first 0 ord->(∃ys,StrsAre ord ys/\ys.Perm ss)->
     Q (.ref h1.objs.size) { s with heap:=h1.push (uo first 0 S es.size ep),drawn:=d1 }:=by
   intro first T0 ord h1 d1 hk hsz hT hT1 hT2 od hord
   have hne:S≠h1.objs.size:=Aw (AB hlt hsz)
   have szp:(h1.push (uo first 0 S es.size ep)).objs.size=h1.objs.size+1:=Bh ..
   refine h _ d1 h1.objs.size [h1.objs.size,S,T0] ord (a6y P w S h1.objs.size T0 es ep t ord) (fun b ob e=>Ac _ (hk b ob e)) hsz (by simp) (fun b hb=>?_) (fun A' hA=>?_) ⟨first,o,Ak _ rfl,Ac _ (hk S o ho),hd,od.keep (fun T ob _ e=>Ac _ e),hT⟩ hord
   . rw[szp]
     have hb':b=h1.objs.size\/b=S\/b=T0:=by simpa using hb
     rcases hb' with rfl|rfl|rfl
     . exact⟨Ce _,.inr hsz⟩
     . exact⟨Cy (AB hlt hsz),.inl rfl⟩
     . exact⟨Cy hT1,hT2⟩
   . exact a2h hA _ (by simp) (by simp) hne hf hled (by simp) (Aw hT1)
 have plain0:∀(ord:List Value),Ord w S es ep t s.heap (.int 0 0) 0 ord->(∃ys,StrsAre ord ys/\ys.Perm ss)->Q (.ref s.heap.objs.size) { s with heap:=s.heap.push (uo (.int 0 0) 0 S es.size ep) }:=fun ord od hord =>
   make (.int 0 0) S ord s.heap s.drawn (fun _ _ e=>e) (Aj _) (fun T e=>by cases e) hlt (.inl rfl) od hord
 cases hbt:w.params.followText "set-order" with
 | true =>
   simp only[Bool.not_true,EI,Bo,if_false]
   refine Aa (Ae (Aa (Fn ho hd hf ?_)))
   refine Aa (AV (Ae ⟨_,rfl,"set_iterator",_,⟨_,Ak _ rfl,rfl⟩,SF.slot_next.lookup,?_⟩))
   refine plain0 _ (.text 0 hbt) ⟨_,hstr _ (fun e he=>(tu _ es).mem_iff.mp he),?_⟩
   rw[<- hss];exact (tu _ es).map _
 | false =>
   show wpAny _ _ (if (!false && (!t.plain && decide (es.size>1)))=true then _ else _) _ _ s
   by_cases h2:es.size>1
   . have hp0:t.plain=false:=hpl (by omega)
     rw[if_pos (by simp[hp0,h2])]
     refine Aa (jp es.size (DF es.size) s _ (by simp) fun ps d hps=>?_)
     have hpsl:ps.length=es.size:=by rw[hps.length_eq,Fo]
     refine Aa (AV ?_ ?_)
     . refine (Aa (Fn (s:={ s with heap:=s.heap.push _,drawn:=d }) (Ac _ ho) hd hf ?_))
       refine Aa (AV (Ae ⟨_,rfl,"set_iterator",_,⟨_,Ak _ rfl,rfl⟩,SF.slot_next.lookup,?_⟩))
       have hlp:∀p∈ps,p<es.size:=fun p hp=>EO.mp (hps.mem_iff.mp hp)
       refine make (.ref s.heap.objs.size) s.heap.objs.size (ps.filterMap fun p=>(es[p]?).map (·.2)) (s.heap.push _) d (fun b ob e=>Ac _ e) (by rw[Bh];exact Du _) (fun T e=>by cases e;rfl) (by rw[Bh];exact Ce _) (.inr (Aj _))
         (.drawn 0 _ ps hbt ⟨_,Ak _ rfl,rfl,_,rfl⟩ hlp) ?_
       have e1:(ps.filterMap fun p=>(es[p]?).map (·.2))=(ps.filterMap fun p=>es[p]?).map (·.2):=by rw[List.map_filterMap]
       have hpm:(ps.filterMap fun p=>es[p]?).Perm es.toList:=by
         have:=hps.filterMap (fun p=>es[p]?)
         have e2:=tw es.toList
         simp only[BK,Ba] at e2
         rw[e2] at this
         exact this
       refine⟨_,by rw[e1];exact hstr _ (fun e he=>hpm.mem_iff.mp he),?_⟩
       rw[<- hss];exact hpm.map _
     . have hz:ps.length<=sizeLine:=by rw[hpsl];exact Fl hb
       show (ps.map _).toArray.size<=sizeLine
       rw[Av,Ad];exact hz
   . rw[if_neg (by simp[h2])]
     refine Aa (Ae (Aa (Fn ho hd hf ?_)))
     refine Aa (AV (Ae ⟨_,rfl,"set_iterator",_,⟨_,Ak _ rfl,rfl⟩,SF.slot_next.lookup,?_⟩))
     by_cases h1:es.size=0
     . refine plain0 [] (.none 0 0 hbt h1) ⟨[],.nil,?_⟩
       rw[<- hss,E9 h1]
       exact EK _
     . obtain⟨e,he⟩:∃e,es = #[e]:=by
         obtain⟨l⟩:=es
         have hl:l.length=1:=by
           have a1:¬ l.length>1:=h2
           have a2:¬ l.length=0:=h1
           omega
         match l,hl with
         | [e],_=>exact⟨e,rfl⟩
       refine plain0 [e.2] (.one0 e hbt he) ⟨[fz e.2],hstr [e] (fun x hx=>by rw[he];exact hx),?_⟩
       rw[<- hss,he]
       exact EK _
theorem xk {E:Value->Shared->Prop}{s:Shared}{S:Addr}{ss:List Str}{Q:List Value->Shared->Prop}(hh:A.handled=none) (hS:SSet P w s.heap S ss) (hl:ss.length<=sizeLine)
   (h:∀(h':Heap) (d':Drawn) (tk:Nat) (ord:List Value) (ys:List Str),(∀b o,s.heap.get? b=some o->h'.get? b=some o)->s.heap.objs.size<=h'.objs.size->StrsAre ord ys->ys.Perm ss->Q ord { s with heap:=h',drawn:=d',toks:=tk }) :
   wpAny (model P w) A (collect (.ref S)) Q E s:=by
 obtain⟨o,es,ep,t,ho,hex,hd,hrest⟩:=id hS
 have hlt:S<s.heap.objs.size:=Ap ho
 unfold collect
 refine Aa (wpAny_runValue (By entry_proto_collect' ?_))
 rw[Bn PySem.F.plain_proto_collect _]
 show wpAny _ A.in1 (newList [] >>= fun l=>again (.builtin "list.__iadd__" ⟨[l,.ref S],[]⟩)) _ _ s
 refine Aa (AV ?_)
 refine Ae ⟨BJ FM _,By entry_list_iadd' ?_⟩
 rw[Bn FM _]
 generalize hH:s.heap.push { cls:=.type "list",data:=.seq ([]:List Value).toArray }=H
 have hHs:H.objs.size=s.heap.objs.size+1:=by rw[<- hH,Bh]
 have old:∀b ob,s.heap.get? b=some ob->H.get? b=some ob:=fun b ob e=>by rw[<- hH];exact Ac _ e
 have hS1:SSet P w H S ss:=hS.at fun o e=>old S o e
 have hD:H.get? s.heap.objs.size=some { cls:=.type "list",data:=.seq #[] }:=by rw[<- hH];exact Ak _ rfl
 show wpAny _ A.in1 (EX (.ref s.heap.objs.size) (.ref S) (.ref s.heap.objs.size)) _ _ { s with heap:=H }
 unfold EX
 refine Aa (CG (T := "set") (v:=.ref S) (show Hr { s with heap:=H } (.ref S) "set" from⟨o,old S o ho,hex.1⟩) ?_)
 have h1:FG (.ref s.heap.objs.size) (.ref S)=false:=by simp[FG,BD hlt]
 have h2:(Value.type "set" == Value.type "list")=false:=by decide
 have h3:(Value.type "set" == Value.type "tuple")=false:=by decide
 simp only[h1,h2,h3,IT,Bo,if_false]
 refine Aa (y9 (s:={ s with heap:=H }) hS1 fun h' d' I fp ord St hk hI hIf hfp W st ⟨ys,hys,hp⟩=>?_)
 have ty':Hr { s with heap:=h',drawn:=d' } (.ref S) "set" := ⟨o,hk S o (old S o ho),hex.1⟩
 refine Aa (AS ?_)
 unfold Builtin.List.listLengthHint
 refine Aa (FU (T := "set") (v:=.ref S) ty' SF.set_len ?_)
 wp_delta
 refine Aa (DJ (T := "set") (v:=.ref S) (b:=true) ty' SF.sub_set ?_)
 show wpAny _ A.in1 (typeOf (Value.ref S) >>= _) _ _ _
 refine Aa (CG (T := "set") (v:=.ref S) ty' ?_)
 refine Ae ?_
 have hDI:s.heap.objs.size≠I:=fun z=>by
   have:H.objs.size<=I:=hI
   rw[hHs] at this
   omega
 have hSf:s.heap.objs.size∉fp:=fun hb=>by
   rcases (hfp _ hb).2 with z|z
   . exact absurd z (BD hlt)
   . have:H.objs.size<=s.heap.objs.size:=z
     rw[hHs] at this
     omega
 have hlen:ord.length=ss.length:=by
   have a1:ord.length=ys.length:=hys.length
   rw[a1,hp.length_eq]
 have key:∀(h1:Heap) (c₁:Nat),St 0 h1->(∀b ob,b≠s.heap.objs.size->h'.get? b=some ob->h1.get? b=some ob)->h1.get? s.heap.objs.size=some { cls:=.type "list",data:=.seq #[] c₁ }->
     codeAny (model P w) A (.builtin "list.extend.loop" ⟨[.ref s.heap.objs.size,.ref I,.ref s.heap.objs.size],[]⟩)
       (fun r s'=>r=.ok (.ret (.ref s.heap.objs.size))/\∃acc' c',s'.heap.get? s.heap.objs.size=some { cls:=.type "list",data:=.seq acc' c' }/\Q acc'.toList s') { s with heap:=h1,drawn:=d' }:=by
   intro h1 c₁ st1 hk1 hD1
   refine codeAny_extend_loopS (W A.in1 hh).toS (by rw[hlen];exact hl) _ hSf _ ord.length 0 _ #[] c₁ rfl (A8 _) st1 hD1 (ItemsOf.nil _) fun s' acc' c' hm hS' hacc=>?_
   refine⟨rfl,acc',c',hS',?_⟩
   have eacc:acc'.toList=ord:=by
     refine Ib fun i=>?_
     rw[BK]
     by_cases hi:i<acc'.size
     . have e:acc'[i]? = some acc'[i]:=by simp[hi]
       rw[e,hacc.2 i _ e]
     . have hi':ord.length<=i:=by have:=hacc.1;omega
       rw[Bt hi']
       simp;omega
   have heq:s'={ s with heap:=s'.heap,drawn:=d',toks:=s'.toks }:=Moved.eq_with hm
   rw[eacc,heq]
   refine h s'.heap d' s'.toks ord ys (fun b ob e=>?_) (Bw (Ap hS')) hys hp
   have hb1:b≠s.heap.objs.size:=Aw (Ap e)
   have hb2:b≠I:=fun z=>by
     have hz:H.objs.size<=b:=by rw[z];exact hI
     rw[hHs] at hz
     exact AZ _ (AB (Cy (Ap e)) hz)
   exact hm.heap b ob (by simp[hb1,hb2]) (hk1 b ob hb1 (hk b ob (old b ob e)))
 have hD':h'.get? s.heap.objs.size=some { cls:=.type "list",data:=.seq #[] }:=hk _ _ hD
 have fin:∀(h1:Heap) (c₁:Nat),St 0 h1->(∀b ob,b≠s.heap.objs.size->h'.get? b=some ob->h1.get? b=some ob)->h1.get? s.heap.objs.size=some { cls:=.type "list",data:=.seq #[] c₁ }->∀(R:Result->Shared->Prop),
     (∀s' acc' c',s'.heap.get? s.heap.objs.size=some { cls:=.type "list",data:=.seq acc' c' }->Q acc'.toList s'->R (.ok (.ret (.ref s.heap.objs.size))) s')->
     codeAny (model P w) A (.builtin "list.extend.loop" ⟨[.ref s.heap.objs.size,.ref I,.ref s.heap.objs.size],[]⟩) R { s with heap:=h1,drawn:=d' }:=by
   intro h1 c₁ a1 a2 a3 R hR
   refine DB (key h1 c₁ a1 a2 a3) fun r s' ⟨e,acc',c',q1,q2⟩=>?_
   subst e
   exact hR s' acc' c' q1 q2
 have last:∀(R:Result->Shared->Prop),R=R->True:=fun _ _=>trivial
 refine wpAny_ite_split (fun _=>?_) (fun _=>Ae ⟨BJ Ft _,fin h' 0 st (fun b ob _ e=>e) hD' _ fun s' acc' c' q1 q2=>?_⟩)
 . refine Aa (Cn ?_)
   refine Aa ?_
   show wpAny _ _ (updateSeq s.heap.objs.size (·.push .none) >>= fun _=>updateSeq s.heap.objs.size (·.pop)) _ _ _
   refine Aa (DQ hD' rfl ?_)
   have hS₂:=Bp (Eb (·.push Value.none)) hD' rfl
   refine DQ (hz:=by seq_fits) hS₂ rfl ?_
   have hS₃:=Bp (Eb (·.pop)) hS₂ rfl
   refine Ae ⟨BJ Ft _,fin _ _ ?_ (fun b ob hb e=>?_) hS₃ _ fun s' acc' c' q1 q2=>?_⟩
   . refine (W A.in1 hh).frame 0 _ _ st fun b hb o e=>?_
     have hbS:b≠s.heap.objs.size:=fun z=>hSf (z ▸ hb)
     exact (Bl _ _ (Br hbS)).trans ((Bl _ _ (Br hbS)).trans e)
   . exact (Bl _ _ (Br hb)).trans ((Bl _ _ (Br hb)).trans e)
   . show wpAny _ A (load s.heap.objs.size >>= _) _ _ _
     exact Aa (IG q1 (Ae q2))
 . show wpAny _ A (load s.heap.objs.size >>= _) _ _ _
   exact Aa (IG q1 (Ae q2))
theorem yc {E:Value->Shared->Prop}{s:Shared}{S:Addr}{ss:List Str}{Q:Value->Shared->Prop}(hh:A.handled=none) (hS:SSet P w s.heap S ss) (h64:ss.length<64)
   (h:∀(h':Heap) (d':Drawn) (tk:Nat) (l:Addr) (vs:List Value) (zs:List Str) (e:Nat),(∀b o,s.heap.get? b=some o->h'.get? b=some o)->s.heap.objs.size<=l->h'.get? l=some { cls:=.type "list",data:=.seq vs.toArray e }->StrsAre vs zs->zs.Perm ss->sortedS zs=true->
     Q (.ref l) { s with heap:=h',drawn:=d',toks:=tk }) :
   wpAny (model P w) A (call (.builtin "sorted") [.ref S]) Q E s:=by
 refine Calls.call_function_entry kind_sorted plain_sorted entry_sorted (args_sorted1 _) ?_
 unfold Builtin.«sorted»
 refine Aa (m:=checkCount "sorted" 1 1 _) (Ae ?_)
 refine Aa (xk (A:=A.in1) (show A.in1.handled=none from hh) hS (by rw[Ga];omega) fun h1 d1 tk1 ord ys hk1 hsz1 hys hp1=>?_)
 have hn:ord.length<64:=by
   have:ord.length=ys.length:=hys.length
   rw[this,hp1.length_eq];exact h64
 refine Aa (wpAny_newList ?_ (by rw[Ga];omega))
 have hoL:(h1.push (seqObj "list" ord.toArray 0)).get? h1.objs.size=some (seqObj "list" ord.toArray 0):=Ak _ rfl
 show wpAny _ _ _ _ _ { s with heap:=h1.push (seqObj "list" ord.toArray 0),drawn:=d1,toks:=tk1 }
 refine Aa (AS (Bj slot_list_sort ⟨_,hoL,rfl⟩ entry_list_sort (list_sort_treeK strKind_oneLt hoL hys.keysOf (fun v₁ v₂ rest e=>keyKind_strs (by rw[<- e];exact hys)) hn fun st' a1 a2=>⟨_,rfl,?_⟩) (args_list_sort _)))
 obtain⟨zs,q1,q2,q3⟩:=sorted_out_str hys a1 a2
 refine Ae ⟨_,rfl,?_⟩
 obtain⟨e,he⟩:=sortedHeap_at (out:=(arrOf st').map (·.2)) hoL
 refine h _ d1 tk1 h1.objs.size ((arrOf st').map (·.2)).toList zs e (fun b o q=>?_) hsz1 he q1 (q2.trans hp1) q3
 have hb:=Ap (hk1 b o q)
 rw[sortedHeap_old (Aw hb) (by rw[Bh];exact Cy hb)]
 exact Ac _ (hk1 b o q)
end
section
variable {X:Cx}
noncomputable def SetO (P:Program) (w:World) (a:Addr) (ss:List Str):HO:=.ext fun h=>SSet P w h a ss
theorem md:∀{xs:List Str}{us:List Value},Vals (xs.map V.str) us->StrsAre us xs
 | [],_,h=>by cases h;exact .nil
 | x::r,_,h=>by
   cases h with
   | cons h1 h2=>obtain⟨t,rfl⟩:=h1;exact .cons x t (md h2)
theorem lv:∀{us:List Value}{xs:List Str},StrsAre us xs->Vals (xs.map V.str) us
 | _,_,.nil=>.nil
 | _,_,.cons x t r=>.cons ⟨t,rfl⟩ (lv r)
theorem wc (hc:X.calm=true):c7 X (.type "set") (fun vs H Q=>∃(a:Addr) (xs:List Str),vs=[.ref a]/\SqL X.K H a (xs.map V.str)/\xs.length+1<scanBound/\
   ∀p ss,H p=none->Dd xs ss->Q (.ref p) (upd H p (SetO X.prog X.w p ss))):=by
 intro pins s σ H vs us Q I r h
 obtain⟨a,xs,rfl,hq,hz,q⟩:=h
 obtain⟨u,rfl,ru⟩:=r.one
 cases ru
 obtain⟨its,rv,p,_⟩:=I.list hq
 have hs:=md rv
 have hl:its.length=xs.length:=hs.length
 refine uf (I.ok.hd hc) p.isList (by simpa using hs) (by rw[Av,hl];exact hz) fun h' tk ss hS hd hk=>?_
 have fr:H s.heap.objs.size=none:=I.hok.fresh (Aj _)
 refine⟨.ref s.heap.objs.size,upd H s.heap.objs.size (SetO X.prog X.w s.heap.objs.size ss),I.laid (t':=tk) (fun b o e=>hk b o (Ap e) e) (Aj _) ⟨hS,?_,fun h1 h2 h3 k=>?_⟩,rfl,q _ ss fr hd⟩
 . obtain⟨o,_,_,_,ho,_⟩:=hS;exact⟨o,ho⟩
 . exact SSet.at h3 k
theorem jb (hc:X.calm=true):c7 X (.builtin "sorted") (fun vs H Q=>∃(a:Addr) (ss:List Str),vs=[.ref a]/\H a=some (SetO X.prog X.w a ss)/\ss.length<64/\
   ∀p zs,H p=none->zs.Perm ss->sortedS zs=true->Q (.ref p) (upd H p (.lst (zs.map V.str)))):=by
 intro pins s σ H vs us Q I r h
 obtain⟨a,ss,rfl,hq,hz,q⟩:=h
 obtain⟨u,rfl,ru⟩:=r.one
 cases ru
 have hS:SSet X.prog X.w s.heap a ss:=(I.hok a _ hq).1
 refine yc (I.ok.hd hc) hS hz fun h' d' tk l ws zs e hk hl hget hs hp hso=>?_
 have fr:H l=none:=I.hok.fresh hl
 have hzl:zs.length<64:=by rw[hp.length_eq];exact hz
 have ok':HOk X.prog X.w (upd H l (.lst (zs.map V.str))) h':=I.hok.laid (a:=l) (o:=.lst (zs.map V.str)) hk hl ⟨by rw[Ad];exact Bw (dq (by omega)),ws,e,lv hs,hget⟩
 have un:Un (frs X.stack) [] H (upd H l (.lst (zs.map V.str))) s.heap h':=Un.laid hk hl fr
 exact⟨.ref l,_,I.call (g':=s.gens) (d':=d') (t':=tk) (ch:=[]) un ok' I.bare (fun b z=>absurd z (by simp)),rfl,q l zs fr hp hso⟩
end
section
variable {P:Program}{w:World}{K:Ab}{mg:Str->Option Value}{base:Heap}{N:List Str}{qual:Str}{scope:Scope}{f:Addr}{cd:Value}{A:Around}{outer:List Env}{s₀:Shared}{H₀:Hp}{E:XK}
end
section
variable {P:Program}{w:World}{K:Ab}{mg:Str->Option Value}{base:Heap}{N:List Str}{qual:Str}{scope:Scope}{f:Addr}{cd:Value}{A:Around}{outer:List Env}{s₀:Shared}{H₀:Hp}{E:XK}
end
section
variable {X:Cx}{E:XK}{x:Str}{C:Addr}{B newId initId:String}{bmB:List Value}{np cpos pos:Pos}{e:Expr}{es:List Expr}{t:TA}
end
section
variable {X:Cx}{pins₀:List (Addr×Obj)}{E:XK}
theorem Inv.track {Y:Cx}{pins:List (Addr×Obj)}{σ:St}{H:Hp}{s:Shared}{a:Addr}{o:HO}(I:Inv Y pins σ H s) (hn:H a=none) (h0:Y.s₀.heap.get? a=none) (hL:a≠Y.env.locals) (hc:∀x c,Y.env.cells.lookup x=some c->c≠a)
   (hp:∀p∈Y.pn++pins,p.1≠a) (ho:ObjOk Y.prog Y.w (upd H a o) s.heap a o):Inv Y pins σ (upd H a o) s:=by
 have keep:∀b u,H b=some u->upd H a o b=some u:=fun b u e=>by rw[ae (aj e hn)];exact e
 refine⟨I.ok,I.os,I.bare,⟨I.base.keep,I.base.slot,fun b ob e n hx=>?_,I.base.there,fun b xs e=>keep b _ (I.base.tups b xs e),fun b ob xs e=>keep b _ (I.base.frzs b ob xs e),fun b ps e=>?_⟩,I.loc,I.cell,?_,fun x c e=>?_,fun p q=>?_,fun b u e=>?_,I.len⟩
 . have:b≠a:=fun z=>by rw[z,h0] at e;cases e
   rw[ae this];exact I.base.free b ob e n hx
 . obtain⟨m,e'⟩:=I.base.tbls b ps e
   exact⟨m,keep b _ e'⟩
 . rw[ae (Br hL)];exact I.free
 . rw[ae (hc x c e)];exact I.freeC x c e
 . obtain⟨p1,p2,p3⟩:=I.pin p q
   exact⟨p1,by rw[ae (hp p q)];exact p2,p3⟩
 . by_cases hb:b=a
   . subst hb;rw[aa] at e;cases e;exact ho
   . rw[ae hb] at e
     exact (I.hok b u e).stay (fun _ _ _ q=>q) (fun c q=>keep c _ q) fun c xs q=>keep c _ q
end
section
variable {X:Cx}{E:XK}{c n:Str}{C:Addr}{i:Nat}{body suite:List Stmt}{b₀:Stmt}{tb ts:TS}{np hpos pos:Pos}
end
open PySem.Builtin PySem.Builtin.ObjectAttr PySem.Builtin.Getset_descriptor
section
variable {prog:Program}{w:World}{A:Around}{E:Value->Shared->Prop}{h:Heap}{g:Array GenState}{d:Drawn}{t:Nat}{os:OsState}{K:Ab}{a C:Addr}{o:Obj}
end
section
variable {X:Cx}
end
mutual
inductive Dp (K:Ab) (H:Hp):V->PyData->Prop
 | non:Dp K H .non .none
 | bl (b:Bool):Dp K H (.bl b) (.bool b)
 | int (i:Int):Dp K H (.int i) (.int i)
 | str (x:Str):Dp K H (.str x) (.str x)
 | lst {a:Addr} {xs:List V} {ds:List PyData}:SqL K H a xs->DpAll K H xs ds->Dp K H (.ref a) (.list ds)
 | tup {a:Addr} {xs:List V} {ds:List PyData}:SqT K H a xs->DpAll K H xs ds->Dp K H (.ref a) (.tuple ds)
inductive DpAll (K:Ab) (H:Hp):List V->List PyData->Prop
 | nil:DpAll K H [] []
 | cons {v:V} {vs:List V} {d:PyData} {ds:List PyData}:Dp K H v d->DpAll K H vs ds->DpAll K H (v::vs) (d::ds)
end
section
variable {X:Cx}{pins:List (Addr×Obj)}{σ:St}{H:Hp}{s:Shared}
mutual
theorem Dp.reads (I:Inv X pins σ H s):∀{v:V}{d:PyData},Dp X.K H v d->∀{u:Value},RelV v u->∃as,Reads s.heap u d as
 | _,_,.non,_,r=>by cases r;exact⟨_,.none⟩
 | _,_,.bl b,_,r=>by cases r;exact⟨_,.bool b⟩
 | _,_,.int i,_,r=>by obtain⟨t,rfl⟩:=r;exact⟨_,.int i t⟩
 | _,_,.str x,_,r=>by obtain⟨t,rfl⟩:=r;exact⟨_,.str x t⟩
 | _,_,.lst hs ha,_,r=>by
   cases r
   obtain⟨its,rv,⟨o,n,e,hc,_,hd⟩,_⟩:=I.list hs
   obtain⟨as,ra⟩:=DpAll.reads I ha rv
   exact⟨_,.list e hc hd (by simpa using ra)⟩
 | _,_,.tup hs ha,_,r=>by
   cases r
   obtain⟨its,rv,⟨o,e,hc,n,hd⟩,_⟩:=I.tuple hs
   obtain⟨as,ra⟩:=DpAll.reads I ha rv
   exact⟨_,.tuple e hc hd (by simpa using ra)⟩
theorem DpAll.reads (I:Inv X pins σ H s):∀{vs:List V}{ds:List PyData},DpAll X.K H vs ds->∀{us:List Value},Vals vs us->∃as,ReadsAll s.heap us ds as
 | _,_,.nil,_,r=>by cases r;exact⟨_,.nil⟩
 | _,_,.cons h1 h2,_,r=>by
   cases r with
   | cons r1 r2 =>
     obtain⟨as,q1⟩:=Dp.reads I h1 r1
     obtain⟨bs,q2⟩:=DpAll.reads I h2 r2
     exact⟨_,.cons q1 q2⟩
end
end
noncomputable def EqOk (d:PyData):Prop:=d.canLay0=true/\d.depth<=16
section
variable {X:Cx}
noncomputable def rNeD (K:Ab):R2:=fun x y H Q=>∃dx dy,Dp K H x dx/\Dp K H y dy/\EqOk dx/\EqOk dy/\Q (.bl (!PyData.eqv dx dy)) H
theorem a9k (hu:X.A.units+32<cLine):OpR X (compareOp .NotEq) (rNeD X.K):=by
 intro pins s σ H x y v u Q I rx ry h
 obtain⟨dx,dy,h1,h2,o1,o2,q⟩:=h
 obtain⟨as,ra⟩:=Dp.reads I h1 rx
 obtain⟨bs,rb⟩:=Dp.reads I h2 ry
 exact SeqAt.compareNe_reads ra rb o1.1 o2.1 (by have:=o1.2;have:=Nat.min_le_left dx.depth dy.depth;omega) ⟨.bl _,H,I,rfl,q⟩
end
noncomputable def RowAt (K:Ab) (H:Hp) (a:Addr) (r:List Str):Prop:=SqT K H a (r.map V.str)
noncomputable def RowsAt (K:Ab) (H:Hp) (a:Addr) (rs:List (List Str)):Prop:=∃as:List Addr,H a=some (.lst (as.map V.ref))/\Paired (fun b r=>RowAt K H b r) as rs
noncomputable def aa9 (K:Ab) (H:Hp) (a:Addr) (rss:List (List (List Str))):Prop:=∃as:List Addr,SqT K H a (as.map V.ref)/\Paired (fun b rs=>RowsAt K H b rs) as rss
theorem Same.seqT {K:Ab}{H H':Hp}{a:Addr}{xs:List V}(e:Same H H') (h:SqT K H a xs):SqT K H' a xs:=by
 rcases h with (h|⟨o,h⟩)|h
 . exact .inl (.inl (e _ _ h))
 . exact .inl (.inr ⟨o,e _ _ h⟩)
 . exact .inr h
theorem RowAt.same {K:Ab}{H H':Hp}{a:Addr}{r:List Str}(h:RowAt K H a r) (e:Same H H'):RowAt K H' a r:=e.seqT h
theorem RowsAt.same {K:Ab}{H H':Hp}{a:Addr}{rs:List (List Str)}(h:RowsAt K H a rs) (e:Same H H'):RowsAt K H' a rs:=by
 obtain⟨as,h1,h2⟩:=h
 exact⟨as,e _ _ h1,Paired.mapP h2 fun b r z=>z.same e⟩
theorem ag {H:Hp}{p:Addr}(h:H p=none) (o:HO):Same H (upd H p o):=fun b u q=>by rw[ae (aj q h)];exact q
noncomputable def ul (K:Ab) (w:World) (a:Addr) (kvs:List (Str×V)):Prop :=
 ∃es n,K.lookup a=some ⟨.type "dict",none,.dict es n,#[]⟩/\FV w.params es.toList/\(a == sysModules)=false/\∀x,RelO (kvs.lookup x) (findBy BV es x)
noncomputable def a78 (X:Cx) (to:TE) (t:TA):TE:=fun σ H Q=>to σ H fun x H1=>∃a kvs,x=.ref a/\ul X.K X.w a kvs/\t σ H1 fun ys H2=>∃z,ys=[.str z]/\Q ((kvs.lookup z).getD .non) H2
section
variable {X:Cx}{o e:Expr}{to:TE}{t:TA}{apos cpos:Pos}
theorem a82 (ho:PE X o to) (ha:PA X [e] t)
   (hbase:attributeBase o "get" X.env (eval o X.env)=eval o X.env:=by rfl)
   (hfew:((backTo cpos (starEach [e] X.env)).all (fun x => !x.1) && (backToKw cpos (keywordEach [] X.env)).all (fun x=>x.1.isSome)
     && decide ([e].length+([]:List Keyword).length+(if ([]:List Keyword).isEmpty then 0 else 1)<30))=true:=by rfl)
   (hline:(apos.endLine == cpos.line)=true:=by rfl) (hs:starEach [e] X.env=(false,eval e X.env)::starEach [] X.env:=by rfl) (hplain:(backTo cpos (starEach [] X.env)).any (·.1)=false:=by rfl) :
   PE X (.Call (.Attribute o "get" apos) [e] [] cpos) (a78 X to t):=by
 intro pins s σ H Q I h
 refine Gc hbase hfew hline rfl (thn (ho pins s σ H _ I h) fun v s1 ⟨x,H1,I1,r1,a,kvs,ex,hd,q1⟩=>?_)
 subst ex
 cases r1
 obtain⟨es,n,hl,hk,hno,hv⟩:=hd
 have mp:∀s':Shared,X.K.In s'.heap->s'.heap.MapOf (strKind X.prog X.w) a (fun k=>findBy BV es k):=fun s' kin=>IK kin hl hk
 have mp1:=mp s1 I1.kIn
 refine⟨"dict","dict.get",Eg,CN,Gy,mp1.typeIs,mp1.noDict,?_⟩
 have hA:=ha cpos pins s1 σ H1 _ I1 q1
 rw[hs] at hA |-
 refine CD (by show (false || (backTo cpos (starEach [] X.env)).any (·.1))=false;rw[hplain]<;>rfl) (DG ?_)
 refine thn hA fun us s2 ⟨vs,H2,I2,r2,z,ez,q2⟩=>?_
 subst ez
 obtain⟨u,rfl,ru⟩:=r2.one
 obtain⟨t',rfl⟩:=ru
 have mp2:=mp s2 I2.kIn
 refine FH CN mp2.typeIs En (PySem.F.args_dict_get_2 _ _) (meets_dict_get (strKind X.prog X.w) a (Fs _ _ z t') hno) ⟨_,mp2,?_⟩
 have hz:=hv z
 refine⟨(kvs.lookup z).getD .non,H2,I2.tok _,?_,q2⟩
 cases e1:kvs.lookup z with
 | none =>
   rw[e1] at hz
   cases e2:findBy BV es z with
   | none=>rfl
   | some u=>rw[e2] at hz;exact hz.elim
 | some v =>
   rw[e1] at hz
   cases e2:findBy BV es z with
   | none=>rw[e2] at hz;exact hz.elim
   | some u=>rw[e2] at hz;exact hz
end
open PySem.Builtin.Str
noncomputable def cutS (z:Str) (lo hi:Option Int):Str:=⟨((z.cps.toList.drop (HT.sIx z.length 0 lo)).take (HT.sIx z.length z.length hi - HT.sIx z.length 0 lo)).toArray⟩
theorem qr (n d:Nat) (hd:d<=n) (v:Option Int) (hv:∀i,v=some i -> -(n:Int)<=i\/0<=i\/True):HT.sIx n d v<=n:=by
 cases v with
 | none=>exact hd
 | some i =>
   show (if i<0 then (i+(n:Int)).toNat else min i.toNat n)<=n
   split<;>omega
theorem wp (n d:Nat) (hd:d<=n) (v:Option Int):(match v with|none=>(d:Int)|some i=>max 0 (min (if i<0 then i+(n:Int) else i) (n:Int)))=((HT.sIx n d v:Nat):Int):=by
 cases v with
 | none=>rfl
 | some i =>
   show max 0 (min (if i<0 then i+(n:Int) else i) (n:Int))=((if i<0 then (i+(n:Int)).toNat else min i.toNat n:Nat):Int)
   split<;>omega
theorem ze (lo hi:Option Int) (n:Nat):strSliceIndices lo hi 1 n=(DF (HT.sIx n n hi - HT.sIx n 0 lo)).map (fun k=>HT.sIx n 0 lo+k):=by
 have e1:=wp n 0 (A8 _) lo
 have e2:=wp n n (Aj _) hi
 have key:strSliceIndices lo hi 1 n=sliceRange ((HT.sIx n 0 lo:Nat):Int) ((HT.sIx n n hi:Nat):Int) 1:=by
   rw[<- e1,<- e2]
   cases lo<;>cases hi<;>rfl
 rw[key]
 generalize HT.sIx n 0 lo=a
 generalize HT.sIx n n hi=b
 unfold sliceRange
 simp only[show ((1:Int)>0)=True from by simp,if_true]
 by_cases h:(a:Int)<b
 . rw[if_pos h]
   have e3:(((b:Int) - a+1 - 1) / 1).toNat=b - a:=by omega
   rw[e3]
   refine Di fun k _=>?_
   omega
 . rw[if_neg h]
   have e4:b - a=0:=by omega
   rw[e4]
   rfl
theorem a4m (z:Str) (lo hi:Option Int):((strSliceIndices lo hi 1 z.length).filterMap (z.cps[·]?))=(z.cps.toList.drop (HT.sIx z.length 0 lo)).take (HT.sIx z.length z.length hi - HT.sIx z.length 0 lo):=by
 rw[ze]
 have hz:z.length=z.cps.toList.length:=by simp[Fq]
 have hb:HT.sIx z.length z.length hi<=z.length:=qr _ _ (Aj _) hi fun _ _=>.inr (.inr trivial)
 generalize HT.sIx z.length 0 lo=a at*
 generalize HT.sIx z.length z.length hi=b at*
 by_cases h:a<=b
 . have:=StrLaws.picks z.cps.toList (b - a) a (by omega)
   simpa using this
 . have e:b - a=0:=by omega
   rw[e]
   simp
section
variable {X:Cx}
noncomputable def rSlS:V->Option Int->Option Int->Hp->VK->Prop:=fun x lo hi H Q=>∃z,x=.str z/\z.length<=sizeLine/\Q (.str (cutS z lo hi)) H
theorem xr:SlR X rSlS:=by
 intro pins s σ H x v vl vu lo hi sl Q I rx hs pl pu h
 obtain⟨z,rfl,hz,q⟩:=h
 obtain⟨t,rfl⟩:=rx
 refine⟨"str",_,PySem.F.slot_str_getitem.lookup,Hh s z t,?_⟩
 obtain⟨l,hl,el⟩:∃l:Option (Int×Tok),partValue l=vl/\l.map (·.1)=lo:=by
   cases pl with
   | none=>exact⟨none,rfl,rfl⟩
   | int i t=>exact⟨some (i,t),rfl,rfl⟩
 obtain⟨u,hu,eu⟩:∃u:Option (Int×Tok),partValue u=vu/\u.map (·.1)=hi:=by
   cases pu with
   | none=>exact⟨none,rfl,rfl⟩
   | int i t=>exact⟨some (i,t),rfl,rfl⟩
 have hS:s.heap.IsSlice sl l u none:=by
   obtain⟨o,ho,hc,hd⟩:=hs
   exact⟨o,ho,hc,by rw[hd,hl,hu];rfl⟩
 refine getItem_meets (Hh s z t) (by decide) PySem.F.slot_str_getitem PySem.F.entry_str_getitem (PySem.F.args_str_getitem_2 _ _) (meets_str_getitem_slice z t sl l u none (by decide)) ⟨hS,?_⟩
 have epick:slicePicked z l u none=strSliceIndices lo hi 1 z.length:=by
   unfold slicePicked
   rw[el,eu]
   rfl
 have ecut:((slicePicked z l u none).filterMap (z.cps[·]?))=(z.cps.toList.drop (HT.sIx z.length 0 lo)).take (HT.sIx z.length z.length hi - HT.sIx z.length 0 lo):=by rw[epick];exact a4m z lo hi
 unfold sliceMade
 split
 . rename_i hw
   have hlen:(slicePicked z l u none).length=z.length:=by simpa using hw
   have eq:cutS z lo hi=z:=by
     have e1:((z.cps.toList.drop (HT.sIx z.length 0 lo)).take (HT.sIx z.length z.length hi - HT.sIx z.length 0 lo))=z.cps.toList:=by
       rw[epick,ze,Ad,Fo] at hlen
       have hb:HT.sIx z.length z.length hi<=z.length:=qr _ _ (Aj _) hi fun _ _=>.inr (.inr trivial)
       rcases Nat.eq_zero_or_pos z.length with h0|h0
       . have:z.cps.toList=[]:=by
           have:z.cps.toList.length=0:=by simpa [Fq] using h0
           exact Bi this
         rw[this];simp
       . have ea:HT.sIx z.length 0 lo=0:=by omega
         have eb:HT.sIx z.length z.length hi=z.length:=by omega
         rw[ea,eb,Cr,DX]
         exact Bm (by simp[Fq])
     unfold cutS
     rw[e1]
   rw[eq] at q
   exact⟨.str z,H,I,⟨t,rfl⟩,q⟩
 . show (Made.str _).post _ s
   rw[ecut]
   refine⟨?_,.str (cutS z lo hi),H,I.tok _,⟨_,rfl⟩,q⟩
   refine A0 ?_ hz
   show ((z.cps.toList.drop (HT.sIx z.length 0 lo)).take (HT.sIx z.length z.length hi - HT.sIx z.length 0 lo)).toArray.size<=z.cps.size
   rw[Av,AG,Be,Ba]
   omega
theorem la:OpR X (compareOp .In) (fun x y H Q=>∃(c:Nat) (z:Str),x=.str ⟨#[c]⟩/\y=.str z/\Q (.bl (decide (c∈z.cps.toList))) H):=by
 intro pins s σ H x y v u Q I rx ry h
 obtain⟨c,z,rfl,rfl,q⟩:=h
 refine a4i pins s σ H _ _ v u Q I rx ry ⟨_,_,rfl,rfl,?_⟩
 rw[StrLaws.found_one]
 exact q
end
noncomputable def Glob (mg:Str->Option Value) (x:Str) (v:V):Prop:=∃u,mg x=some u/\RelV v u
theorem pe_g {X:Cx}{x:Str}{v:V}{pos:Pos}(h:Glob X.mg x v) (hg:Gl X x:=by rfl) (hd:(x == ("__debug__" : Str))=false:=by decide):PE X (.Name x pos) (tC v):=by
 obtain⟨u,hm,r⟩:=h
 exact a8l hg hm r hd
theorem vj {sc:Scope}{env:Env}(hfree:∀y∈sc.names,y.2≠.free) (hcell:∀y∈sc.names,y.2≠.cell) (y:Str) (h:(relabel sc env).names.lookup y=some .cell\/(relabel sc env).names.lookup y=some .free):False:=by
 have key:∀k,(relabel sc env).names.lookup y=some k->∃z∈sc.names,z.2=k\/z.2=.free:=fun k e=>by
   have hm:=BG e
   obtain⟨z,hz,ez⟩:=A9.mp hm
   refine⟨z,hz,?_⟩
   obtain⟨n,kk⟩:=z
   dsimp only at ez
   split at ez
   . rename_i hc
     simp only[BR,beq_iff_eq] at hc
     exact .inr hc.1.1
   . exact .inl (congrArg Prod.snd ez)
 rcases h with h|h
 . obtain⟨z,hz,q|q⟩:=key _ h
   . exact hcell z hz q
   . exact hfree z hz q
 . obtain⟨z,hz,q|q⟩:=key _ h
   . exact hfree z hz q
   . exact hfree z hz q
theorem p6 {X:Cx}{elt iter:Expr}{x:Str}{px pos:Pos}{ifs:List Expr}{sc:Scope}{wi:TI}{tc:TT}{te:TE}(hi:PI X (.Name x px) iter wi) (hif:∀s H C ex,PTs (blk X [x] s H sc [] C ex) ifs tc) (he:∀s H C ex,PE (blk X [x] s H sc [] C ex) elt te)
   (hc:X.calm=true:=by rfl) (hkind:sc.kind=.function:=by rfl) (hx:sc.names.lookup x=some .local:=by decide +kernel) (hfree:∀y∈sc.names,y.2≠.free:=by decide +kernel) (hcell:∀y∈sc.names,y.2≠.cell:=by decide +kernel)
   (hnames:∀y∈sc.names,y.2=.local->sc.names.lookup y.1=some .local:=by decide +kernel) (hs:∀x,foldedSetIterable iter X.env x=pure x:=by intro _;rfl) :
   PE X (.ListComp elt [⟨.Name x px,iter,ifs,0⟩] sc pos) (ko [] wi tc te) :=
 ym [x] hc hi hif he hkind rfl (by simp) hx (PySem.closureFor_none hfree) hcell hnames (fun y c e=>by simp at e) (fun y h=>(vj hfree hcell y h).elim) (fun j hj=>by simp at hj) hs
structure JSeq (J:It) (I0:Hp->Prop) (xs:List V):Prop where
 go:∀i H,I0 H->i<xs.length->J.go i H
 stop:∀i H,I0 H->xs.length<=i->J.stop i H
 yld:∀i H x H',i<xs.length->I0 H->J.yld i H x H'->H'=H/\xs[i]? = some x
 stay:∀H H',I0 H->Same H H'->I0 H'
theorem wt {K:Ab}{a:Addr}{xs:List V}:JSeq (Itt K a) (fun H=>SqT K H a xs) xs where
 go:=fun i H h hi=>⟨xs,xs[i],h,by simp[hi]⟩
 stop:=fun i H h hi=>⟨xs,h,hi⟩
 yld:=fun i H x H' _ h y=>⟨y.1,y.2 xs h⟩
 stay:=fun H H' h e=>e.seqT h
theorem i7 {K:Ab}{a:Addr}{xs:List V}:JSeq (Itl K a) (fun H=>SqL K H a xs) xs where
 go:=fun i H h hi=>⟨xs,xs[i],h,by simp[hi]⟩
 stop:=fun i H h hi=>⟨xs,h,hi⟩
 yld:=fun i H x H' _ h y=>⟨y.1,y.2 xs h⟩
 stay:=fun H H' h e=>e.seq h
noncomputable def kh (z:Str):List V:=z.cps.toList.map fun c=>V.str ⟨#[c]⟩
theorem a4s {z:Str}:JSeq (Its z) (fun _=>True) (kh z) where
 go:=fun i H _ hi=>by simpa [kh,Its] using hi
 stop:=fun i H _ hi=>by simpa [kh,Its] using hi
 yld:=fun i H x H' _ _ y=>by
   obtain⟨e,c,hc,rfl⟩:=y
   refine⟨e,?_⟩
   unfold kh
   rw[Ai,BK,hc];rfl
 stay:=fun _ _ _ _=>trivial
theorem Paired.snocP {α β:Type}{F:α->β->Prop}{x:α}{y:β}:∀{l₁:List α}{l₂:List β},Paired F l₁ l₂->F x y->Paired F (l₁++[x]) (l₂++[y])
 | _,_,.nil,h=>.cons h .nil
 | _,_,.cons h₁ t,h=>.cons h₁ (Paired.snocP t h)
noncomputable def fu (D:Addr) (H H':Hp):Prop:=∀b u,H b=some u->b≠D->H' b=some u
theorem Same.x {H H':Hp}(e:Same H H') (D:Addr):fu D H H':=fun b u q _=>e b u q
theorem a5k {J:It}{H1:Hp}{σ:St}{ix:List Nat}{tc:TT}{te:TE}{Q:VK}{I0:Hp->Prop}(xs:List V) (p:V->Bool) (R:Addr->V->V->Hp->Prop) (hJ:JSeq J I0 xs) (h0:I0 H1) (hz:xs.length<=sizeLine) (hR:∀D x y H H',R D x y H->fu D H H'->R D x y H')
   (hc:∀x∈xs,∀H2,Same H1 H2->∀Q':Bool->Hp->Prop,(∀H3,Same H2 H3->Q' (p x) H3)->tc (some x::bq σ ix) H2 Q')
   (he:∀D,∀x∈xs,p x=true->∀H2,Same H1 H2->H2 D≠none->∀Q':VK,(∀y H3,Same H2 H3->R D x y H3->Q' y H3)->te (some x::bq σ ix) H2 Q')
   (hQ:∀D H' ys,H1 D=none->Same H1 H'->H' D=some (.lst ys)->Paired (fun x y=>R D x y H') (xs.filter p) ys->Q (.ref D) H') :
   ji J H1 σ ix tc te Q:=by
 intro D hD
 have put:∀H ys,Same H1 H->Same H1 (upd H D (.lst ys)):=fun H ys e b u q=>by rw[ae (aj q hD)];exact e b u q
 refine⟨fun i m H=>i<=xs.length/\m=xs.length - i/\Same H1 H/\∃ys,H D=some (.lst ys)/\Paired (fun x y=>R D x y H) ((xs.take i).filter p) ys,⟨xs.length,A8 _,rfl,put _ _ (Same.refl _),[],aa,by simpa using Paired.nil⟩,?_⟩
 rintro i m H ⟨hi,rfl,e,ys,hy,hp⟩
 have hI:=hJ.stay _ _ h0 e
 by_cases hlt:i<xs.length
 . refine .inr ⟨hJ.go i H hI hlt,fun x H' hy'=>?_⟩
   obtain⟨rfl,hx⟩:=hJ.yld i H x H' hlt hI hy'
   have hm:x∈xs:=Ar hx
   have ht:xs.take (i+1)=xs.take i++[x]:=by rw[BY,hx];rfl
   have hlen:ys.length<=i:=by
     have h1:=Ax hp
     have h2:=BN p (xs.take i)
     rw[AG] at h2
     omega
   refine hc x hm _ e _ fun H3 e3=>?_
   cases hpx:p x with
   | false =>
     rw[if_neg Am]
     refine⟨xs.length - (i+1),by omega,hlt,rfl,e.trans e3,ys,e3 _ _ hy,?_⟩
     rw[ht,CI]
     simp only[Et,hpx,IL,BP,Bo,if_false]
     exact Paired.mapP hp fun x y z=>hR _ _ _ _ _ z (e3.x D)
   | true =>
     rw[if_pos rfl]
     refine he D x hm hpx _ (e.trans e3) (by rw[e3 _ _ hy];simp) _ fun y H4 e4 hr=>?_
     have e5:fu D H4 (upd H4 D (.lst (ys++[y]))):=fun b u q hb=>by rw[ae hb];exact q
     refine⟨ys,e4 _ _ (e3 _ _ hy),by omega,xs.length - (i+1),by omega,hlt,rfl,put _ _ (e.trans (e3.trans e4)),ys++[y],aa,?_⟩
     rw[ht,CI]
     simp only[Et,hpx,IL,if_true]
     exact Paired.snocP (Paired.mapP hp fun x y z=>hR _ _ _ _ _ (hR _ _ _ _ _ z ((e3.trans e4).x D)) e5) (hR _ _ _ _ _ hr e5)
 . have hi':i=xs.length:=by omega
   subst hi'
   refine .inl ⟨hJ.stop _ H hI (Aj _),?_⟩
   rw[Bv] at hp
   exact hQ D H ys hD e hy hp
theorem gf {α β:Type}{f:α->β}:∀{l:List α}{l':List β},Paired (fun x y=>y=f x) l l'->l'=l.map f
 | _,_,.nil=>rfl
 | _,_,.cons h t=>by rw[h,gf t];rfl
theorem pf {J:It}{H1:Hp}{σ:St}{ix:List Nat}{tc:TT}{te:TE}{Q:VK}{I0:Hp->Prop}(xs:List V) (p:V->Bool) (f:V->V) (hJ:JSeq J I0 xs) (h0:I0 H1) (hz:xs.length<=sizeLine)
   (hc:∀x∈xs,∀H2,Same H1 H2->∀Q':Bool->Hp->Prop,(∀H3,Same H2 H3->Q' (p x) H3)->tc (some x::bq σ ix) H2 Q')
   (he:∀x∈xs,p x=true->∀H2,Same H1 H2->∀Q':VK,(∀H3,Same H2 H3->Q' (f x) H3)->te (some x::bq σ ix) H2 Q')
   (hQ:∀D H',H1 D=none->Same H1 H'->H' D=some (.lst ((xs.filter p).map f))->Q (.ref D) H') :
   ji J H1 σ ix tc te Q :=
 a5k xs p (fun _ x y _=>y=f x) hJ h0 hz (fun _ _ _ _ _ h _=>h) hc (fun _ x hx hp H2 e _ Q' q=>he x hx hp H2 e Q' fun H3 e3=>q _ H3 e3 rfl) fun D H' ys hD e hy hp=>hQ D H' hD e (by rw[hy,gf hp])
section
variable {κ:Type} [DecidableEq κ]
noncomputable def valV (kvs:List (κ×V)) (k:κ):Option V:=(kvs.find? fun kv=>decide (kv.1=k)).map (·.2)
noncomputable def putK (kvs:List (κ×V)) (k:κ) (v:V):List (κ×V) :=
 if (kvs.any fun kv=>decide (kv.1=k))=true then kvs.map (fun kv=>if kv.1=k then (kv.1,v) else kv) else kvs++[(k,v)]
noncomputable def mv (kvs:List (κ×V)) (k:κ):List (κ×V):=kvs.filter fun kv=>decide (kv.1≠k)
theorem gp {p:κ×V}{r:List (κ×V)}{k:κ}(e:p.1=k):valV (p::r) k=some p.2:=by simp[valV,BQ,e]
theorem iu {p:κ×V}{r:List (κ×V)}{k:κ}(e:¬ p.1=k):valV (p::r) k=valV r k:=by simp[valV,BQ,e]
theorem pb (k:κ):∀kvs:List (κ×V),(kvs.any fun kv=>decide (kv.1=k))=(valV kvs k).isSome
 | []=>rfl
 | p::r=>by
   rw[Ep]
   by_cases e:p.1=k
   . simp only[gp e,decide_eq_true e,Bool.true_or,Option.isSome_some]
   . rw[iu e,decide_eq_false e,Bool.false_or];exact pb k r
theorem i3 (kvs:List (κ×V)) (k:κ) (v:V):(putK kvs k v).length<=kvs.length+1:=by
 unfold putK
 split
 . rw[Ad];omega
 . rw[Ag,AD,EA];omega
theorem a6b {kvs:List (κ×V)}{k:κ}(v:V) (h:valV kvs k=none):putK kvs k v=kvs++[(k,v)]:=by
 unfold putK
 rw[pb,h]
 exact if_neg (by decide)
theorem RelO.isSome_eq {o:Option V}{u:Option Value}(r:RelO o u):o.isSome=u.isSome:=by
 cases o with
 | none=>cases u with
   | none=>rfl
   | some _=>exact (show False from r).elim
 | some _=>cases u with
   | none=>exact (show False from r).elim
   | some _=>rfl
theorem RelO.getD {o:Option V}{u:Option Value}{d:V}{d':Value}(r:RelO o u) (rd:RelV d d'):RelV (o.getD d) (u.getD d'):=by
 cases o with
 | none=>cases u with
   | none=>exact rd
   | some _=>exact (show False from r).elim
 | some _=>cases u with
   | none=>exact (show False from r).elim
   | some _=>exact r
theorem KV.val {kvs:List (κ×V)}{vs:List (κ×Value)}(r:KV kvs vs) (k:κ):RelO (valV kvs k) (valueAt vs k):=by
 unfold KV at r
 induction r with
 | nil=>exact True.intro
 | @cons p q ps qs h t ih =>
   obtain⟨h1,h2⟩:=h
   by_cases e:p.1=k
   . have e':q.1=k:=h1.symm.trans e
     have b:valueAt (q::qs) k=some q.2:=by simp[valueAt,BQ,e']
     rw[gp e,b];exact h2
   . have e':¬ q.1=k:=fun z=>e (h1.trans z)
     have b:valueAt (q::qs) k=valueAt qs k:=by simp[valueAt,BQ,e']
     rw[iu e,b];exact ih
theorem KV.any {kvs:List (κ×V)}{vs:List (κ×Value)}(r:KV kvs vs) (k:κ):(kvs.any fun kv=>decide (kv.1=k))=vs.any fun kv=>decide (kv.1=k):=by
 unfold KV at r
 induction r with
 | nil=>rfl
 | cons h t ih=>rw[Ep,Ep,ih,h.1]
theorem KV.repl {kvs:List (κ×V)}{vs:List (κ×Value)}(r:KV kvs vs) (k:κ) {y:V}{u:Value}(ry:RelV y u) :
   KV (kvs.map fun kv=>if kv.1=k then (kv.1,y) else kv) (vs.map fun kv=>if kv.1=k then (kv.1,u) else kv):=by
 unfold KV at r |-
 induction r with
 | nil=>exact .nil
 | @cons p q ps qs h t ih =>
   rw[AC,AC]
   refine .cons ?_ ih
   obtain⟨h1,h2⟩:=h
   by_cases e:p.1=k
   . rw[if_pos e,if_pos (h1.symm.trans e)];exact⟨h1,ry⟩
   . rw[if_neg e,if_neg (fun z=>e (h1.trans z))];exact⟨h1,h2⟩
theorem KV.put {kvs:List (κ×V)}{vs:List (κ×Value)}(r:KV kvs vs) (k:κ) {y:V}{u:Value}(ry:RelV y u):KV (putK kvs k y) (stored vs k u):=by
 unfold putK stored
 rw[r.any k]
 by_cases e:(vs.any fun kv=>decide (kv.1=k))=true
 . rw[if_pos e,if_pos e];exact r.repl k ry
 . rw[if_neg e,if_neg e];exact Jj r ⟨rfl,ry⟩
theorem KV.drop {kvs:List (κ×V)}{vs:List (κ×Value)}(r:KV kvs vs) (k:κ):KV (mv kvs k) (without vs k):=by
 unfold KV at r |-
 unfold mv without
 induction r with
 | nil=>exact .nil
 | @cons p q ps qs h t ih =>
   obtain⟨h1,h2⟩:=h
   rw[Et,Et]
   by_cases e:p.1=k
   . have a:¬ decide (p.1≠k)=true:=by simp[e]
     have b:¬ decide (q.1≠k)=true:=by simp[h1.symm.trans e]
     rw[if_neg a,if_neg b];exact ih
   . have e':¬ q.1=k:=fun z=>e (h1.trans z)
     have a:decide (p.1≠k)=true:=by simp[e]
     have b:decide (q.1≠k)=true:=by simp[e']
     rw[if_pos a,if_pos b];exact .cons ⟨h1,h2⟩ ih
theorem KV.keys {kvs:List (κ×V)}{vs:List (κ×Value)}(r:KV kvs vs):kvs.map (·.1)=vs.map (·.1):=by
 unfold KV at r
 induction r with
 | nil=>rfl
 | cons h t ih=>rw[AC,AC,ih,h.1]
theorem KV.length {kvs:List (κ×V)}{vs:List (κ×Value)}(r:KV kvs vs):kvs.length=vs.length:=Ax r
theorem a5j (kvs:List (κ×V)) (k:κ):(mv kvs k).length<=kvs.length:=BN _ _
end
theorem j9 {P:Program}{w:World}{k:Key}{u:Value}(r:RelV (kV k) u):(bz P w).is k u=true:=by
 cases k with
 | inl i=>obtain⟨t,e⟩:=(show ∃t,u=Value.int i t from r);subst e;exact y0 P w i t
 | inr x=>obtain⟨t,e⟩:=(show ∃t,u=Value.str x t from r);subst e;exact yg P w x t
theorem tj {P:Program}{w:World}:∀{ks:List Key}{us:List Value},Vals (ks.map kV) us->ItemsAre (bz P w) ks us
 | [],_,r=>by rw[Ja] at r;cases r;exact .nil
 | k::ks,_,r=>by
   rw[AC] at r
   cases r with
   | cons h t=>exact .cons (j9 h) (tj t)
abbrev KT (H:Hp):List (List Key×V)->List (List Key×Addr×Value)->Prop:=Paired fun p q=>p.1=q.1/\H q.2.1=some (.tup (p.1.map kV))/\RelV p.2 q.2.2
theorem KT.val {H:Hp}{kvs:List (List Key×V)}{xs:List (List Key×Addr×Value)}(r:KT H kvs xs) (k:List Key):RelO (valV kvs k) ((atKey xs k).map (·.2)):=by
 induction r with
 | nil=>exact True.intro
 | @cons p q ps qs h t ih =>
   obtain⟨h1,_,h2⟩:=h
   by_cases e:p.1=k
   . have e':q.1=k:=h1.symm.trans e
     have b:atKey (q::qs) k=some q.2:=by simp[atKey,BQ,e']
     rw[gp e,b];exact h2
   . have e':¬ q.1=k:=fun z=>e (h1.trans z)
     have b:atKey (q::qs) k=atKey qs k:=by simp[atKey,BQ,e']
     rw[iu e,b];exact ih
theorem KT.repl {H:Hp}{kvs:List (List Key×V)}{xs:List (List Key×Addr×Value)}(r:KT H kvs xs) (k:List Key) {y:V}{u:Value}(ry:RelV y u) :
   KT H (kvs.map fun kv=>if kv.1=k then (kv.1,y) else kv) (xs.map (putAt k u)):=by
 induction r with
 | nil=>exact .nil
 | @cons p q ps qs h t ih =>
   rw[AC,AC]
   refine .cons ?_ ih
   obtain⟨h1,h2,h3⟩:=h
   unfold putAt
   by_cases e:p.1=k
   . rw[if_pos e,if_pos (h1.symm.trans e)];exact⟨h1,h2,ry⟩
   . rw[if_neg e,if_neg (fun z=>e (h1.trans z))];exact⟨h1,h2,h3⟩
theorem KT.put {H:Hp}{kvs:List (List Key×V)}{xs:List (List Key×Addr×Value)}(r:KT H kvs xs) (k:List Key) {b:Addr}{y:V}{u:Value}(hb:H b=some (.tup (k.map kV))) (ry:RelV y u) :
   KT H (putK kvs k y) (storedH xs k b u):=by
 have e:(kvs.any fun kv=>decide (kv.1=k))=(atKey xs k).isSome:=by
   rw[pb,(r.val k).isSome_eq,Ic]
 unfold putK storedH
 rw[e]
 by_cases q:(atKey xs k).isSome=true
 . rw[if_pos q,if_pos q];exact r.repl k ry
 . rw[if_neg q,if_neg q];exact Jj r ⟨rfl,hb,ry⟩
theorem KT.keeps {H H':Hp}{kvs:List (List Key×V)}{xs:List (List Key×Addr×Value)}(r:KT H kvs xs) (ht:∀b ys,H b=some (.tup ys)->H' b=some (.tup ys)):KT H' kvs xs :=
 Paired.mapP r fun _ _ z=>⟨z.1,ht _ _ z.2.1,z.2.2⟩
section
variable {P:Program}{w:World}{H:Hp}{h:Heap}{a:Addr}
theorem a7f {u:HO}(ok:HOk P w H h) (e:Rd H a u):ObjOk P w H h a u:=e.ok ok
theorem fw {kvs:List (Key×V)}(ok:HOk P w H h) (e:Rd H a (.dK kvs)):kvs.length<=sizeLine/\(a == sysModules)=false/\∃vs,KV kvs vs/\h.DictOf (bz P w) a vs :=
 show ObjOk P w H h a (.dK kvs) from a7f ok e
theorem nr {kvs:List (Key×V)}(ok:HOk P w H h) (e:H a=some (.dK kvs)):kvs.length<=sizeLine/\(a == sysModules)=false/\∃vs,KV kvs vs/\h.DictOf (bz P w) a vs:=fw ok (.inl e)
theorem lj {ks:List Key}(ok:HOk P w H h) (e:H a=some (.tup (ks.map kV))):(tupleKind (bz P w)).is h ks a:=by
 obtain⟨_,its,r,o,h1,h2,n,h3⟩:=(show ObjOk P w H h a (.tup (ks.map kV)) from ok a _ e)
 exact⟨o,its.toArray,n,h1,h2,h3,by simpa using tj r⟩
theorem mx {kvs:List (List Key×V)}(ok:HOk P w H h) (e:Rd H a (.dT kvs)):kvs.length<=sizeLine/\(a == sysModules)=false/\
   ∃xs,KT H kvs xs/\h.DictOfH (tupleKind (bz P w)) a xs:=by
 obtain⟨z,y,xs,r,o,es,ep,h1,h2,h3,h4,h5⟩:=(show ObjOk P w H h a (.dT kvs) from a7f ok e)
 refine⟨z,y,xs,r,o,es,ep,h1,h2,h3,h4,fun x hx=>?_,h5⟩
 have all:∀{l:List (List Key×V)} {m:List (List Key×Addr×Value)},KT H l m->∀x∈m,(tupleKind (bz P w)).is h x.1 x.2.1:=by
   intro l m q
   induction q with
   | nil=>intro x hx;exact nomatch hx
   | @cons p q ps qs hq t ih =>
     intro x hx
     rcases Aq.mp hx with e|hx
     . subst e
       exact lj ok (by rw[<- hq.1];exact hq.2.1)
     . exact ih x hx
 exact all r x hx
theorem aav {kvs:List (List Key×V)}(ok:HOk P w H h) (e:H a=some (.dT kvs)):kvs.length<=sizeLine/\(a == sysModules)=false/\
   ∃xs,KT H kvs xs/\h.DictOfH (tupleKind (bz P w)) a xs:=mx ok (.inl e)
end
noncomputable def DGet (H:Hp) (a:Addr) (y:V) (r:Option V):Prop :=
 (∃kvs k,Rd H a (.dK kvs)/\y=kV k/\r=valV kvs k)\/∃kvs k b,Rd H a (.dT kvs)/\y=.ref b/\H b=some (.tup (k.map kV))/\r=valV kvs k
noncomputable def DPut (H:Hp) (a:Addr) (y v:V) (H':Hp):Prop :=
 (∃kvs k,H a=some (.dK kvs)/\y=kV k/\kvs.length<sizeLine/\H'=upd H a (.dK (putK kvs k v)))\/
 ∃kvs k b,H a=some (.dT kvs)/\y=.ref b/\H b=some (.tup (k.map kV))/\kvs.length<sizeLine/\H'=upd H a (.dT (putK kvs k v))
theorem DGet.k {H:Hp}{a:Addr}{kvs:List (Key×V)}{k:Key}(e:H a=some (.dK kvs)):DGet H a (kV k) (valV kvs k):=.inl ⟨kvs,k,.inl e,rfl,rfl⟩
theorem DPut.k {H:Hp}{a:Addr}{kvs:List (Key×V)}{k:Key}{v:V}(e:H a=some (.dK kvs)) (hl:kvs.length<sizeLine):DPut H a (kV k) v (upd H a (.dK (putK kvs k v))):=.inl ⟨kvs,k,e,rfl,hl,rfl⟩
section
variable {X:Cx}{pins:List (Addr×Obj)}{σ:St}{H:Hp}{s:Shared}{a:Addr}{y v:V}{u r:Value}{o:Option V}{A:Around}{E:Value->Shared->Prop}
theorem Inv.big (I:Inv X pins σ H s):sysModules<s.heap.objs.size:=by
 have h:mainGlobals<s.heap.objs.size:=(I.mod.glob.keeps I.bk).lt
 exact Nat.lt_trans (by decide) h
theorem a46 {Q:Value->Shared->Prop}(hu:A.units+1<cLine) (I:Inv X pins σ H s) (g:DGet H a y (some v)) (ry:RelV y u) (h:∀w' s',Inv X pins σ H s'->RelV v w'->Q w' s') :
   wpAny (model X.prog X.w) A (getItem (.ref a) u) Q E s:=by
 rcases g with⟨kvs,k,e,ey,l⟩|⟨kvs,k,b,e,ey,eb,l⟩
 . subst ey
   obtain⟨z,hd,vs,rel,dd⟩:=fw I.hok e
   obtain⟨w',hw,rw'⟩:=RelO.some_of (v:=v) (o:=valueAt vs k) (by rw[l];exact rel.val k)
   exact Ir (j9 ry) dd.mapOf hw (h w' _ (I.tok _) rw')
 . subst ey
   cases (show u=Value.ref b from ry)
   obtain⟨z,hd,xs,rel,dd⟩:=mx I.hok e
   obtain⟨w',hw,rw'⟩:=RelO.some_of (v:=v) (o:=(atKey xs k).map (·.2)) (by rw[l];exact rel.val k)
   obtain⟨p,hp,hp2⟩:=AR.mp hw
   refine wpAny_getItem_heap (DY hu) (lj I.hok eb) dd hp ?_
   rw[hp2]
   exact h w' _ (I.tok _) rw'
theorem a94 {Q:Value->Shared->Prop}(hu:A.units+1<cLine) (I:Inv X pins σ H s) (g:DGet H a y o) (ry:RelV y u) (h:∀s',Inv X pins σ H s'->Q (.bool (!o.isSome)) s') :
   wpAny (model X.prog X.w) A (compareOp .NotIn u (.ref a)) Q E s:=by
 rcases g with⟨kvs,k,e,ey,l⟩|⟨kvs,k,b,e,ey,eb,l⟩
 . subst ey
   obtain⟨z,hd,vs,rel,dd⟩:=fw I.hok e
   refine wpAny_notIn_of (j9 ry) hd dd.mapOf ?_
   rw[<- (rel.val k).isSome_eq,<- l]
   exact h _ (I.tok _)
 . subst ey
   cases (show u=Value.ref b from ry)
   obtain⟨z,hd,xs,rel,dd⟩:=mx I.hok e
   refine wpAny_notIn_heap (DY hu) (lj I.hok eb) hd dd ?_
   have q:=(rel.val k).isSome_eq
   rw[Ic] at q
   rw[<- q,<- l]
   exact h _ (I.tok _)
theorem jt {h':Heap}{t':Nat}{ob:HO}(I:Inv X pins σ H s) (mu:Mut (H a)) (hs:Ck a s.heap h') (he:∃q,h'.get? a=some q) (new:ObjOk X.prog X.w (upd H a ob) h' a ob) :
   Inv X pins σ (upd H a ob) { s with heap:=h',toks:=t' } :=
 I.write (x:=a) (e:=a) mu (.inl rfl) (fun b q hb z=>(hs.2 b hb).trans z) he new
theorem lz {P:Program}{w:World}{H':Hp}{h':Heap}{kvs:List (Key×V)}{vs:List (Key×Value)}(z:kvs.length<=sizeLine) (hd:(a == sysModules)=false) (rel:KV kvs vs) (dd:h'.DictOf (bz P w) a vs) :
   ObjOk P w H' h' a (.dK kvs):=⟨z,hd,vs,rel,dd⟩
theorem a3d {H':Hp}{Q:Unit->Shared->Prop}(hu:A.units+1<cLine) (I:Inv X pins σ H s) (g:DPut H a y v H') (ry:RelV y u) (rv:RelV v r) (h:∀s',Inv X pins σ H' s'->Q () s') :
   wpAny (model X.prog X.w) A (setItem (.ref a) u r) Q E s:=by
 rcases g with⟨kvs,k,e,ey,l,eH⟩|⟨kvs,k,b,e,ey,eb,l,eH⟩
 . subst ey eH
   obtain⟨z,hd,vs,rel,dd⟩:=nr I.hok e
   have hz:vs.length<=sizeLine:=by rw[<- rel.length];exact z
   have hl:(putK kvs k v).length<=sizeLine:=by have:=i3 kvs k v;omega
   refine wpAny_setItem_pairs (hsz:=hz) (j9 ry) dd fun h' dd' hs=>h _ ?_
   have he:∃q,h'.get? a=some q:=let ⟨q,_,_,hq,_⟩:=dd';⟨q,hq⟩
   exact jt I (by rw[e];exact True.intro) hs he (lz hl hd (rel.put k rv) dd')
 . subst ey eH
   cases (show u=Value.ref b from ry)
   obtain⟨z,hd,xs,rel,dd⟩:=aav I.hok e
   have hz:xs.length<=sizeLine:=by rw[<- Ax rel];exact z
   have hl:(putK kvs k v).length<=sizeLine:=by have:=i3 kvs k v;omega
   refine wpAny_setItem_heap (hsz:=hz) (DY hu) (lj I.hok eb) dd fun h' dd' hs=>h _ ?_
   obtain⟨q,es,ep,hq,h2,h3,h4,_,h5⟩:=dd'
   refine jt I (by rw[e];exact True.intro) hs ⟨q,hq⟩ ⟨hl,hd,_,(rel.put k eb rv).keeps fun c ys ec=>?_,q,es,ep,hq,h2,h3,h4,h5⟩
   rw[ae (aba ec e (fun z=>nomatch z))]
   exact ec
end
section
variable {X:Cx}{pins:List (Addr×Obj)}{σ:St}{H:Hp}{s:Shared}{a:Addr}{kvs:List (Key×V)}{k:Key}{u:Value}{A:Around}{E:Value->Shared->Prop}
theorem aay {v:V}{more:List Value}{Q:Value->Shared->Prop}(I:Inv X pins σ H s) (e:H a=some (.dK kvs)) (ry:RelV (kV k) u) (l:valV kvs k=some v) (hm:more=[]\/∃x,more=[x])
   (h:∀w' s',Inv X pins σ (upd H a (.dK (mv kvs k))) s'->RelV v w'->Q w' s'):wpAny (model X.prog X.w) A (call (.builtin "dict.pop") (.ref a::u::more)) Q E s:=by
 obtain⟨z,hd,vs,rel,dd⟩:=nr I.hok e
 obtain⟨w',hw,rw'⟩:=RelO.some_of (v:=v) (o:=valueAt vs k) (by rw[<- l];exact rel.val k)
 have hp:(keyPart u).isSome=true:=by
   cases k with
   | inl i=>obtain⟨t,q⟩:=(show ∃t,u=Value.int i t from ry);subst q;rfl
   | inr x=>obtain⟨t,q⟩:=(show ∃t,u=Value.str x t from ry);subst q;rfl
 have ha:argsOk "dict.pop" ⟨.ref a::u::more,[]⟩:=by
   rcases hm with q|⟨x,q⟩
   . subst q;exact PySem.F.args_dict_pop_2 _ _
   . subst q;exact PySem.F.args_dict_pop_3 _ _ _
 refine FH Gz dd.typeIs PySem.F.entry_dict_pop ha (meets_dict_pop_there (bz X.prog X.w) a (j9 ry) more hm hp)
   ⟨vs,w',dd,by rw[<- rel.length];exact z,hw,fun h' dd' hs=>h w' _ ?_ rw'⟩
 have he:∃q,h'.get? a=some q:=let ⟨q,_,_,hq,_⟩:=dd';⟨q,hq⟩
 exact jt I (by rw[e];exact True.intro) hs he (lz (A0 (a5j kvs k) z) hd (rel.drop k) dd')
end
noncomputable def NoSl (i:Expr):Prop:=∀ov iv,subscripted i false ov iv=operate [ov,iv] (getItem ov iv)
theorem zj {prog:Program}{w:World}{A:Around}{E:Value->Shared->Prop}{s:Shared}{env:Env}{value slice:Expr}{pos:Pos}{T id:String}{Q:Value->Shared->Prop}
   (hl:typeLookup (.type T) "__getitem__" = pure (some (.builtin id))) (hs:NoSl slice)
   (h:wpAny (model prog w) A (eval value env) (fun o s₁=>wpAny (model prog w) A (eval slice env) (fun i s₂=>s₂.TypeIs o T/\wpAny (model prog w) A (getItem o i) Q E s₂) E s₁) E s) :
   wpAny (model prog w) A (eval (.Subscript value slice pos) env) Q E s:=by
 refine Subscript_ (BH h (fun o s₁ h₁=>BH h₁ (fun i s₂ h₂=>?_) fun _ _ x=>x) fun _ _ x=>x)
 obtain⟨hT,h₂⟩:=h₂
 unfold subscriptTail
 refine Aa ?_
 rw[getitemInPython_of_ne hT.not_modules]
 refine Aa (FU hT hl ?_)
 have fin:wpAny (model prog w) A (subscripted slice false o i) (fun r s₃=>wpAny (model prog w) A (letTemporaryGo value o r >>= fun _=>pure r) Q E s₃) E s₂:=by
   rw[hs o i]
   exact wpAny_operating (BH h₂ (fun r s₃ h₃=>Aa (wpAny_letTemporaryGo (Ae h₃))) fun _ _ x=>x)
 first
   | exact Ae (Aa fin)
   | exact Aa (Ae (Aa fin))
   | exact Aa fin
theorem yj {X:Cx}{pins:List (Addr×Obj)}{σ:St}{H:Hp}{s:Shared}{a:Addr}{y:V}{o:Option V}(I:Inv X pins σ H s) (g:DGet H a y o):s.TypeIs (.ref a) "dict" := by
 rcases g with⟨kvs,k,e,_,_⟩|⟨kvs,k,b,e,_,_,_⟩
 . obtain⟨_,_,vs,_,dd⟩:=fw I.hok e
   exact dd.typeIs
 . obtain⟨_,_,xs,_,dd⟩:=mx I.hok e
   exact dd.typeIs
noncomputable def a75 (td ty:TE):TE:=fun σ H Q=>td σ H fun x H1=>ty σ H1 fun y H2=>∃a v,x=.ref a/\DGet H2 a y (some v)/\Q v H2
noncomputable def zg (ty td:TE):TE:=fun σ H Q=>ty σ H fun y H1=>td σ H1 fun x H2=>∃a o,x=.ref a/\DGet H2 a y o/\Q (.bl (!o.isSome)) H2
noncomputable def ut (td ty tv:TE):TS:=fun D σ H=>tv σ H fun v H1=>td σ H1 fun x H2=>ty σ H2 fun y H3=>∃a H4,x=.ref a/\DPut H3 a y v H4/\D.nx σ H4
section
variable {X:Cx}{o i e value:Expr}{pos pos' tpos:Pos}{td ty tv:TE}
theorem a93 (hu:X.A.units+1<cLine) (ho:PE X o td) (hi:PE X i ty) (hs:NoSl i):PE X (.Subscript o i pos) (a75 td ty):=by
 intro pins s σ H Q I h
 refine zj Fu.lookup hs (thn (ho pins s σ H _ I h) fun u s1 ⟨x,H1,I1,rx,q1⟩=>thn (hi pins s1 σ H1 _ I1 q1) fun iv s2 ⟨y,H2,I2,ry,a,v,ex,g,q2⟩=>?_)
 subst ex
 obtain rfl:u=Value.ref a:=rx
 exact⟨yj I2 g,a46 hu I2 g ry fun w' s3 I3 rw'=>⟨v,H2,I3,rw',q2⟩⟩
theorem a2a (hu:X.A.units+1<cLine) (hi:PE X i ty) (ho:PE X o td):PC X .NotIn i o (zg ty td):=by
 intro pins s σ H Q I h
 refine thn (hi pins s σ H _ I h) fun iv s1 ⟨y,H1,I1,ry,q1⟩=>thn (ho pins s1 σ H1 _ I1 q1) fun u s2 ⟨x,H2,I2,rx,a,ov,ex,g,q2⟩=>?_
 subst ex
 obtain rfl:u=Value.ref a:=rx
 exact a94 hu I2 g ry fun s3 I3=>⟨.bl (!ov.isSome),H2,I3,rfl,q2⟩
theorem a89 (hu:X.A.units+1<cLine) (ho:PE X o td) (hi:PE X i ty) (hv:PE X value tv) (hs:swapsWith value (some (.Subscript o i pos')) pos.line X.env=pure false) :
   PS X (.Assign [.Subscript o i pos'] value pos) (ut td ty tv):=by
 intro pins s σ H D I h
 refine wpAny_Assign_Subscript (thn (hv pins s σ H _ I h) fun r s1 ⟨v,H1,I1,rv,q1⟩=>thn (ho pins s1 σ H1 _ I1 q1) fun u s2 ⟨x,H2,I2,rx,q2⟩=>thn (hi pins s2 σ H2 _ I2 q2) fun iv s3 ⟨y,H3,I3,ry,a,H4,ex,g,q3⟩=>?_) hs
 subst ex
 obtain rfl:u=Value.ref a:=rx
 exact a3d hu I3 g ry rv fun s4 I4=>⟨σ,H4,I4,q3⟩
end
theorem oq {P:Program}{w:World}{H:Hp}(h:Heap) (hb:sysModules<h.objs.size):ObjOk P w H (h.push { cls:=.type "dict",data:=.dict #[] }) h.objs.size (.dK []) :=
 ⟨A8 _,beq_eq_false_iff_ne.mpr (Br (Aw hb)),[],.nil,Heap.DictOf.new h⟩
noncomputable def a48:TE:=fun _ H Q=>∀p,H p=none->Q (.ref p) (upd H p (.dK []))
section
variable {X:Cx}{pos:Pos}
theorem a54:PE X (.Dict [] [] pos) a48:=fun pins s σ H Q I h =>
 wpAny_Dict_empty ⟨.ref s.heap.objs.size,_,I.laid (a:=s.heap.objs.size) (o:=.dK []) (t':=s.toks) (fun _ _ q=>Ac _ q) (Aj _) (oq s.heap I.big),rfl,h _ (I.hok.fresh (Aj _))⟩
end
structure M1 (X:Cx) (o:Expr) (m:Str) (apos:Pos) (e:Expr) (cpos:Pos):Prop where
 base:attributeBase o m X.env (eval o X.env)=eval o X.env
 few:((backTo cpos (starEach [e] X.env)).all (fun x => !x.1) && (backToKw cpos (keywordEach [] X.env)).all (fun x=>x.1.isSome)
   && decide (([e]:List Expr).length+([]:List Keyword).length+(if ([]:List Keyword).isEmpty then 0 else 1)<30))=true
 line:(apos.endLine == cpos.line)=true
 trees:backTo cpos (starEach [e] X.env)=[(false,eval e X.env)]
structure M2 (X:Cx) (o:Expr) (m:Str) (apos:Pos) (e f:Expr) (cpos:Pos):Prop where
 base:attributeBase o m X.env (eval o X.env)=eval o X.env
 few:((backTo cpos (starEach [e,f] X.env)).all (fun x => !x.1) && (backToKw cpos (keywordEach [] X.env)).all (fun x=>x.1.isSome)
   && decide (([e,f]:List Expr).length+([]:List Keyword).length+(if ([]:List Keyword).isEmpty then 0 else 1)<30))=true
 line:(apos.endLine == cpos.line)=true
 trees:backTo cpos (starEach [e,f] X.env)=[(false,eval e X.env),(false,eval f X.env)]
noncomputable def IsD (H:Hp) (a:Addr):Prop:=(∃kvs,Rd H a (.dK kvs))\/∃kvs,Rd H a (.dT kvs)
theorem a1r {X:Cx}{pins:List (Addr×Obj)}{σ:St}{H:Hp}{s:Shared}{a:Addr}(I:Inv X pins σ H s) (d:IsD H a) :
   s.TypeIs (.ref a) "dict" /\ (∀b,Value.ref a=.ref b->∃ob,s.heap.get? b=some ob/\ob.dict=none)/\(a == sysModules)=false:=by
 rcases d with⟨kvs,e⟩|⟨kvs,e⟩
 . obtain⟨_,hd,vs,_,dd⟩:=fw I.hok e
   refine⟨dd.typeIs,fun b q=>?_,hd⟩
   cases q
   obtain⟨ob,_,_,h1,h2,_⟩:=dd
   exact⟨ob,h1,h2.2.1⟩
 . obtain⟨_,hd,xs,_,dd⟩:=mx I.hok e
   refine⟨dd.typeIs,fun b q=>?_,hd⟩
   cases q
   obtain⟨ob,_,_,h1,h2,_⟩:=dd
   exact⟨ob,h1,h2.2.1⟩
section
variable {X:Cx}{pins:List (Addr×Obj)}{σ:St}{H:Hp}{s:Shared}{a:Addr}{y d:V}{u r:Value}{o:Option V}{A:Around}{E:Value->Shared->Prop}
theorem a9t {Q:Value->Shared->Prop}(hu:A.units+1<cLine) (I:Inv X pins σ H s) (g:DGet H a y o) (ry:RelV y u) (rd:RelV d r) (h:∀w' s',Inv X pins σ H s'->RelV (o.getD d) w'->Q w' s') :
   wpAny (model X.prog X.w) A (call (.builtin "dict.get") [.ref a,u,r]) Q E s:=by
 rcases g with⟨kvs,k,e,ey,l⟩|⟨kvs,k,b,e,ey,eb,l⟩
 . subst ey
   obtain⟨z,hd,vs,rel,dd⟩:=fw I.hok e
   refine FH CN dd.typeIs En (FO _ _ _) (meets_dict_get_default (bz X.prog X.w) a (j9 ry) hd r) ⟨_,dd.mapOf,h _ _ (I.tok _) ?_⟩
   rw[l]
   exact (rel.val k).getD rd
 . subst ey
   cases (show u=Value.ref b from ry)
   obtain⟨z,hd,xs,rel,dd⟩:=mx I.hok e
   refine FH CN dd.typeIs En (FO _ _ _) (meetsH_dict_get_default (tupleKind (bz X.prog X.w)) a b hd r) ⟨DY hu,k,xs,lj I.hok eb,dd,h _ _ (I.tok _) ?_⟩
   rw[l]
   exact (rel.val k).getD rd
end
noncomputable def a2f (td ty tx:TE):TE:=fun σ H Q=>td σ H fun x H1=>∃a,x=.ref a/\IsD H1 a/\ty σ H1 fun y H2=>tx σ H2 fun z H3=>∃o,DGet H3 a y o/\Q (o.getD z) H3
noncomputable def a4l (td ty:TE):TE:=fun σ H Q=>td σ H fun x H1=>∃a,x=.ref a/\IsD H1 a/\ty σ H1 fun y H2=>∃kvs k v,H2 a=some (.dK kvs)/\y=kV k/\valV kvs k=some v/\Q v (upd H2 a (.dK (mv kvs k)))
section
variable {X:Cx}{o e f:Expr}{apos cpos:Pos}{td ty tx:TE}
theorem a4w (hu:X.A.units+1<cLine) (ho:PE X o td) (he:PE X e ty) (hf:PE X f tx) (m:M2 X o "get" apos e f cpos):PE X (.Call (.Attribute o "get" apos) [e,f] [] cpos) (a2f td ty tx):=by
 intro pins s σ H Q I h
 refine Ie m.base m.few m.line Eg CN Gy (thn (ho pins s σ H _ I h) fun u s1 ⟨x,H1,I1,rx,a,ex,d,q1⟩=>?_)
 subst ex
 obtain rfl:u=Value.ref a:=rx
 obtain⟨t1,t2,_⟩:=a1r I1 d
 refine⟨t1,t2,?_⟩
 rw[m.trees]
 refine CD rfl (DG (Dn (thn (he pins s1 σ H1 _ I1 q1) fun iv s2 ⟨y,H2,I2,ry,q2⟩ =>
   Dn (thn (hf pins s2 σ H2 _ I2 q2) fun fv s3 ⟨z,H3,I3,rz,ov,g,q3⟩=>Ei ?_))))
 exact a9t hu I3 g ry rz fun w' s4 I4 rw'=>⟨_,H3,I4,rw',q3⟩
theorem a5p (ho:PE X o td) (he:PE X e ty) (m:M1 X o "pop" apos e cpos):PE X (.Call (.Attribute o "pop" apos) [e] [] cpos) (a4l td ty):=by
 intro pins s σ H Q I h
 refine Ie m.base m.few m.line Eg Gz PySem.F.type_dict_pop (thn (ho pins s σ H _ I h) fun u s1 ⟨x,H1,I1,rx,a,ex,d,q1⟩=>?_)
 subst ex
 obtain rfl:u=Value.ref a:=rx
 obtain⟨t1,t2,_⟩:=a1r I1 d
 refine⟨t1,t2,?_⟩
 rw[m.trees]
 refine CD rfl (DG (Dn (thn (he pins s1 σ H1 _ I1 q1) fun iv s2 ⟨y,H2,I2,ry,kvs,k,v,ea,ey,l,q2⟩=>Ei ?_)))
 subst ey
 exact aay I2 ea ry l (.inl rfl) fun w' s3 I3 rw'=>⟨v,_,I3,rw',q2⟩
end
section
variable {X:Cx}{pins:List (Addr×Obj)}{σ:St}{H:Hp}{s:Shared}{a:Addr}{kvs:List (Key×V)}{A:Around}{E:Value->Shared->Prop}
theorem a55 {Q:Value->Shared->Prop}(I:Inv X pins σ H s) (e:Rd H a (.dK kvs)) (h:∀p s',H p=none->Inv X pins σ (upd H p (.dK kvs)) s'->Q (.ref p) s'):wpAny (model X.prog X.w) A (call (.type "dict") [.ref a]) Q E s:=by
 obtain⟨z,hd,vs,rel,dd⟩:=fw I.hok e
 refine kt_call_dict hd dd (by rw[<- rel.length];exact z) fun h' dd' hs=>?_
 refine h _ _ (I.hok.fresh (Aj _)) (I.laid (a:=s.heap.objs.size) (o:=.dK kvs) (t':=s.toks) (fun b q hq=>?_) (Aj _) (lz z (beq_eq_false_iff_ne.mpr (Br (Aw I.big))) rel dd'))
 exact (hs.2 b (Aw (Ap hq))).trans (Ac _ hq)
end
section
variable {X:Cx}{pins:List (Addr×Obj)}{σ:St}{H:Hp}{s:Shared}{a:Addr}{y:V}{u:Value}{A:Around}{E:Value->Shared->Prop}
end
section
variable {X:Cx}
end
section
variable {κ:Type} [DecidableEq κ]
end
section
variable {X:Cx}
end
section
variable {X:Cx}{es es1:List Expr}{t t1:TA}{te:TE}{x:Str}{j:Nat}{pos pos2:Pos}
theorem aaf {j} (hr:PA X es t):PA X (.Constant (.str x) j pos::es) (cu (tC (.str x)) t):=ci xh hr rfl
theorem aaq {i:Int}{j} (hr:PA X es t):PA X (.Constant (.int i) j pos::es) (cu (tC (.int i)) t):=ci jx hr rfl
theorem ab0 (h:PE X (.Name x pos) te) (hr:PA X es t):PA X (.Name x pos::es) (cu te t):=ci h hr rfl
theorem ab9 {x1} (h:PA X es1 t1) (hr:PA X es t):PA X (.Tuple es1 x1 pos::es) (cu (tTup t1) t):=ci (a1t h) hr rfl
theorem ab8 (h:PA X es1 t1) (hr:PA X es t):PA X (.List es1 pos::es) (cu (tLst t1) t):=ci (xg h) hr rfl
theorem aas {a b:Expr}(h:PE X (.Subscript a b pos) te) (hr:PA X es t):PA X (.Subscript a b pos::es) (cu te t):=ci h hr rfl
theorem a8z {f:Expr}{as:List Expr}{ks:List Keyword}(h:PE X (.Call f as ks pos) te) (hr:PA X es t):PA X (.Call f as ks pos::es) (cu te t):=ci h hr rfl
theorem aa4 {a b:Expr}{op:Operator}(h:PE X (.BinOp a op b pos) te) (hr:PA X es t):PA X (.BinOp a op b pos::es) (cu te t):=ci h hr rfl
end
structure QE (X:Cx) (e:Expr) (t:TE):Prop where
 run:PE X e t
structure QT (X:Cx) (e:Expr) (t:TT):Prop where
 run:PT X e t
structure QW (X:Cx) (e:Expr) (t:TT):Prop where
 run:PW X e t
structure QA (X:Cx) (es:List Expr) (t:TA):Prop where
 run:PA X es t
structure QS (X:Cx) (st:Stmt) (t:TS):Prop where
 run:PS X st t
structure QB (X:Cx) (st:List Stmt) (t:TS):Prop where
 run:PSs X st t
structure QI (X:Cx) (tg iter:Expr) (wi:TI):Prop where
 run:PI X tg iter wi
structure QG (X:Cx) (target:Expr) (t:TG):Prop where
 run:PG X target t
structure QO (X:Cx) (e:Option Expr) (t:TO):Prop where
 run:PO X e t
structure QTs (X:Cx) (ifs:List Expr) (t:TT):Prop where
 run:PTs X ifs t
theorem QW.qt {X:Cx}{e:Expr}{t:TT}(h:QW X e t):QT X e t:=⟨PW.pt h.run⟩
section
variable {st:Stmt}{id:String}{lo hi:Option Expr}
set_option autoImplicit true
set_option relaxedAutoImplicit true
theorem bo  : QB X [] a7g:=⟨zi ⟩
theorem af {rest:List Stmt}(h1:QS X st t) (h2:QB X rest u):QB X (st::rest) (tSeq t u):=⟨kn h1.run h2.run⟩
theorem ai (h1:QS X st t):QB X [st] t:=⟨jo h1.run⟩
theorem bf {c:Expr}{a b:List Stmt}{tc:TT}(hc:QT X c tc) (ha:QB X a t) (hb:QB X b u):QS X (.If c a b pos) (tIfS tc t u):=⟨a7c hc.run ha.run hb.run⟩
theorem aw {i:Nat}{x:Str}{e:Expr}{te:TE}{pos':Pos}(hN:X.N.Nodup) (hi:X.N[i]? = some x) (hx:Loc X.env.scope x) (he:QE X e te) (hs:swapsWith e (some (.Name x pos')) pos.line X.env=pure false:=by rfl) (hf:X.fn x=true\/X.env.scope.names.lookup x=some .local:=by first|exact .inl rfl|exact .inr rfl|assumption) :     QS X (.Assign [.Name x pos'] e pos) (tAsg te (b7 i)):=⟨a2t hN hi hx he.run hs hf⟩
theorem b0 (he:QE X e te):QS X (.Return (some e) pos) (tRet te):=⟨qe he.run⟩
theorem zo  : QS X (.Return none pos) a7b:=⟨a7v ⟩
theorem bx (he:QE X e te) (hs:swapsWith e none pos.line X.env=pure false:=by rfl):QS X (.Expr e pos) (ql te):=⟨a02 he.run hs⟩
theorem c8 {iter:Expr}{body:List Stmt}{wi:TI}{g:TG}{tb:TS}{pos:Pos}(hp:PassesOwn (model X.prog X.w) X.A X.env X.xe) (hc:X.calm=true) (hi:QI X tg iter wi) (hg:QG X tg g) (hb:QB X body tb) (hs:∀x,foldedSetIterable iter X.env x=pure x:=by intro _;rfl):QS X (.For tg iter body [] pos) (tFor wi g tb):=⟨a3e hp hc hi.run hg.run hb.run hs⟩
theorem jk {tg e:Expr}{te:TE}{g:TG}(he:QE X e te) (hg:QG X tg g) (hs:swapsWithSole [tg] e pos.line X.env=pure false:=by rfl) (hw:swappedStores [tg] e X.env=pure none:=by rfl) (h1:(assignEach [tg] X.env).map (·.2)=[assign tg X.env]:=by rfl):QS X (.Assign [tg] e pos) (tAsg te g):=⟨a9s he.run hg.run hs hw h1⟩
theorem kj {c:Expr}{body:List Stmt}{tc:TT}{tb:TS}(hp:PassesOwn (model X.prog X.w) X.A X.env X.xe) (hc:QT X c tc) (hb:QB X body tb):QS X (.While c body [] pos) (xi tc tb):=⟨a4r hp hc.run hb.run⟩
theorem ac {i j pos}:QE X (.Constant (.int i) j pos) (tC (.int i)):=⟨jx ⟩
theorem ib {b j pos}:QE X (.Constant (.bool b) j pos) (tC (.bl b)):=⟨a6r ⟩
theorem i6 {j pos}:QE X (.Constant .none j pos) (tC .non):=⟨a9g ⟩
theorem b6 {x j pos}:QE X (.Constant (.str x) j pos) (tC (.str x)):=⟨xh ⟩
theorem qv (i:Nat) {x:Str}{pos:Pos}(hN:X.N[i]? = some x:=by rfl) (hv:Vis X.env.scope x:=by first|exact Or.inl rfl|exact Or.inr (Or.inl rfl)|exact Or.inr (Or.inr rfl)) (hd:(x == ("__debug__" : Str))=false:=by decide) (hcd:(x == ("__classdict__" : Str))=false:=by decide):QE X (.Name x pos) (tVar i):=⟨pv i hN hv hd hcd⟩
theorem qe_g {X:Cx}{x:Str}{v:V}{pos:Pos}(h:Glob X.mg x v) (hg:Gl X x:=by rfl) (hd:(x == ("__debug__" : Str))=false:=by decide):QE X (.Name x pos) (tC v):=⟨pe_g h hg hd⟩
theorem ax {op:Operator}{r:R2}(ho:OpR X (binaryOp op) r) (ha:QE X a ta) (hb:QE X b tb):QE X (.BinOp a op b pos) (tOp r ta tb):=⟨a6q ho ha.run hb.run⟩
theorem rl {op:CmpOp}{r:R2}(ho:OpR X (compareOp op) r) (ha:QE X a ta) (hb:QE X b tb) (hm:behindInMarks op b=false):QE X (.Compare a [op] [b] pos) (tOp r ta tb):=⟨o8 ho ha.run hb.run hm⟩
theorem ay {op:CmpOp}{r:R2}(ho:OpR X (compareOp op) r) (ha:QE X a ta) (hb:QE X b tb) (hm:behindInMarks op b=false):QT X (.Compare a [op] [b] pos) (ui (tOp r ta tb)):=⟨js ho ha.run hb.run hm⟩
theorem ir {e:Expr}{t:TE}(h:QE X e t) (he:∀whole,isTrue e X.env whole=(do let v<-whole;standAt e.pos;holding [v] (truthy v)):=by intro _;rfl):QT X e (tB t):=⟨aao h.run he⟩
theorem wy (ha:QT X a tA):QT X (.UnaryOp .Not a pos) (tNot tA):=⟨a9w ha.run⟩
theorem ik (ha:QT X a tA):QW X (.BoolOp .And [a] pos) tA:=⟨a8d ha.run⟩
theorem r6 (ha:QT X a tA):QW X (.BoolOp .Or [a] pos) tA:=⟨a4p ha.run⟩
theorem jf {rest:List Expr}(ha:QT X a tA) (hb:QW X (.BoolOp .And (b::rest) pos) tB'):QW X (.BoolOp .And (a::b::rest) pos) (tAnd tA tB'):=⟨aak ha.run hb.run⟩
theorem nk {rest:List Expr}(ha:QT X a tA) (hb:QW X (.BoolOp .Or (b::rest) pos) tB'):QW X (.BoolOp .Or (a::b::rest) pos) (tOr tA tB'):=⟨a09 ha.run hb.run⟩
theorem aae {op} {t:TE}(h:QE X a t):QE X (.BoolOp op [a] pos) t:=⟨xa h.run⟩
theorem aam {rest:List Expr}(ha:QE X a ta) (hb:QE X (.BoolOp .And (b::rest) pos) tb):QE X (.BoolOp .And (a::b::rest) pos) (a7e ta tb):=⟨a3u ha.run hb.run⟩
theorem gb {c:Expr}(hc:QT X c tA) (ha:QE X a ta) (hb:QE X b tb):QE X (.IfExp c a b pos) (tIf tA ta tb):=⟨a6g hc.run ha.run hb.run⟩
theorem ah {r:R2}(hr:IxR X r) (ha:QE X a ta) (hb:QE X b tb) (hs:yn b):QE X (.Subscript a b pos) (tOp r ta tb):=⟨uj hr ha.run hb.run hs⟩
theorem c4 {r:V->Option Int->Option Int->Hp->VK->Prop}(hr:SlR X r) (he:QE X e te) (hl:QO X lo tl) (hu:QO X hi th):QE X (.Subscript e (.Slice lo hi none p2) pos) (tSl r te tl th):=⟨uz hr he.run hl.run hu.run⟩
theorem ca  : QO X none zf:=⟨yt ⟩
theorem cb (h:QE X e te):QO X (some e) (a79 te):=⟨yy h.run⟩
theorem fe {x1} (h:QA X es t):QE X (.Tuple es x1 pos) (tTup t):=⟨a1t h.run⟩
theorem br (h:QA X es t):QE X (.List es pos) (tLst t):=⟨xg h.run⟩
theorem ar (F:FnOk X.prog X.w X.K X.mg X.base CX k f fd ps sp) (hr:Room k X.A) (hg:Gl X x) (hm:X.mg x=some (.ref f)) (hk:Cq X.K (.ref f)=true) (hb:Binds X.K fd ps ds) (hd:Vals dvs ds) (hx:fg CX X E) (ha:QA X (e::es) t) (hdb:(x == ("__debug__" : Str))=false:=by decide) (he:starEach (e::es) X.env=(false,eval e X.env)::starEach es X.env:=by rfl) (hpl:(backTo pos (starEach es X.env)).any (·.1)=false:=by rfl) :     QE X (.Call (.Name x p) (e::es) [] pos) (a74 sp dvs E t):=⟨a7h F hr hg hm hk hb hd hx ha.run hdb he hpl⟩
theorem bc (hc:c7 X (.builtin id) r) (hg:Gl X x) (hm:X.mg x=none) (hv:bootBuiltins x=some (.builtin id)) (ha:QA X (e::es) t) (hn:x ≠ "__name__" := by decide) (hdb:(x == ("__debug__" : Str))=false:=by decide) (he:starEach (e::es) X.env=(false,eval e X.env)::starEach es X.env:=by rfl) (hpl:(backTo pos (starEach es X.env)).any (·.1)=false:=by rfl):QE X (.Call (.Name x p) (e::es) [] pos) (tCB r t):=⟨lc hc hg hm hv ha.run hn hdb he hpl⟩
theorem be (hc:c7 X (.type T) r) (hg:Gl X x) (hm:X.mg x=none) (hv:bootBuiltins x=some (.type T)) (ha:QA X (e::es) t) (hn:x ≠ "__name__" := by decide) (hdb:(x == ("__debug__" : Str))=false:=by decide) (he:starEach (e::es) X.env=(false,eval e X.env)::starEach es X.env:=by rfl) (hpl:(backTo pos (starEach es X.env)).any (·.1)=false:=by rfl):QE X (.Call (.Name x p) (e::es) [] pos) (tCB r t):=⟨ua hc hg hm hv ha.run hn hdb he hpl⟩
theorem a4h (pa:PlainAttrs T) (slot:Slot T name id) (hty:typeOf (.builtin id)=pure (.type "method_descriptor")) (hm:MtR X id r) (ho:QE X o to) (hbase:attributeBase o name X.env (eval o X.env)=eval o X.env:=by rfl) (hline:(apos.endLine == cpos.line)=true:=by rfl):QE X (.Call (.Attribute o name apos) [] [] cpos) (tBM0 X.K T r to):=⟨aac pa slot hty hm ho.run hbase hline⟩
theorem im {X:Cx}{elt iter:Expr}{x:Str}{px pos:Pos}{ifs:List Expr}{sc:Scope}{wi:TI}{tc:TT}{te:TE}(hi:QI X (.Name x px) iter wi) (hif:∀s H C ex,QTs (blk X [x] s H sc [] C ex) ifs tc) (he:∀s H C ex,QE (blk X [x] s H sc [] C ex) elt te) (hc:X.calm=true:=by rfl) (hkind:sc.kind=.function:=by rfl) (hx:sc.names.lookup x=some .local:=by decide +kernel) (hfree:∀y∈sc.names,y.2≠.free:=by decide +kernel) (hcell:∀y∈sc.names,y.2≠.cell:=by decide +kernel) (hnames:∀y∈sc.names,y.2=.local->sc.names.lookup y.1=some .local:=by decide +kernel) (hs:∀x,foldedSetIterable iter X.env x=pure x:=by intro _;rfl) :     QE X (.ListComp elt [⟨.Name x px,iter,ifs,0⟩] sc pos) (ko [] wi tc te):=⟨p6 hi.run (fun z0 z1 z2 z3=>(hif z0 z1 z2 z3).run) (fun z0 z1 z2 z3=>(he z0 z1 z2 z3).run) hc hkind hx hfree hcell hnames hs⟩
theorem a7p (ho:QE X o to) (ha:QA X [e] t) (hbase:attributeBase o "get" X.env (eval o X.env)=eval o X.env:=by rfl) (hfew:((backTo cpos (starEach [e] X.env)).all (fun x => !x.1) && (backToKw cpos (keywordEach [] X.env)).all (fun x=>x.1.isSome)       && decide ([e].length+([]:List Keyword).length+(if ([]:List Keyword).isEmpty then 0 else 1)<30))=true:=by rfl) (hline:(apos.endLine == cpos.line)=true:=by rfl) (hs:starEach [e] X.env=(false,eval e X.env)::starEach [] X.env:=by rfl) (hplain:(backTo cpos (starEach [] X.env)).any (·.1)=false:=by rfl) :     QE X (.Call (.Attribute o "get" apos) [e] [] cpos) (a78 X to t):=⟨a82 ho.run ha.run hbase hfew hline hs hplain⟩
theorem fk {l:Expr}{tl:TE}(hl:QE X l tl):QI X tg l (a1o X.K tl):=⟨zd hl.run⟩
theorem aa0 {l:Expr}{tl:TE}(hl:QE X l tl):QI X tg l (iTup X.K tl):=⟨a3z hl.run⟩
theorem fi {a:Expr}{ta:TA}{p pos:Pos}(hg:Gl X "range") (hm:X.mg "range" = none) (ha:QA X [a] ta) (hs:starEach [a] X.env=[(false,eval a X.env)]:=by rfl):QI X tg (.Call (.Name "range" p) [a] [] pos) (a73 ta):=⟨a4d hg hm ha.run hs⟩
theorem a4o {a b:Expr}{ta:TA}{p pos:Pos}(hg:Gl X "range") (hm:X.mg "range" = none) (ha:QA X [a,b] ta) (hs:starEach [a,b] X.env=[(false,eval a X.env),(false,eval b X.env)]:=by rfl) (hs2:starEach [b] X.env=[(false,eval b X.env)]:=by rfl) :     QI X tg (.Call (.Name "range" p) [a,b] [] pos) (a6s ta):=⟨a3a hg hm ha.run hs hs2⟩
theorem b8 {i:Nat}{x:Str}(hN:X.N.Nodup) (hi:X.N[i]? = some x) (hx:Loc X.env.scope x) (hf:X.fn x=true\/X.env.scope.names.lookup x=some .local:=by first|exact .inl rfl|exact .inr rfl|assumption):QG X (.Name x pos) (b7 i):=⟨nh hN hi hx hf⟩
theorem ad  : QA X [] tNil:=⟨i9 ⟩
theorem cg (ha:QE X e te) (hr:QA X es t) (hs:starEach (e::es) X.env=(false,eval e X.env)::starEach es X.env:=by rfl):QA X (e::es) (cu te t):=⟨ci ha.run hr.run hs⟩
theorem cf {j} (hr:QA X es t):QA X (.Constant (.str x) j pos::es) (cu (tC (.str x)) t):=⟨aaf hr.run⟩
theorem bj {i:Int}{j} (hr:QA X es t):QA X (.Constant (.int i) j pos::es) (cu (tC (.int i)) t):=⟨aaq hr.run⟩
theorem ak (h:QE X (.Name x pos) te) (hr:QA X es t):QA X (.Name x pos::es) (cu te t):=⟨ab0 h.run hr.run⟩
theorem gx {x1} (h:QA X es1 t1) (hr:QA X es t):QA X (.Tuple es1 x1 pos::es) (cu (tTup t1) t):=⟨ab9 h.run hr.run⟩
theorem mj (h:QA X es1 t1) (hr:QA X es t):QA X (.List es1 pos::es) (cu (tLst t1) t):=⟨ab8 h.run hr.run⟩
theorem av {a b:Expr}(h:QE X (.Subscript a b pos) te) (hr:QA X es t):QA X (.Subscript a b pos::es) (cu te t):=⟨aas h.run hr.run⟩
theorem b5 {f:Expr}{as:List Expr}{ks:List Keyword}(h:QE X (.Call f as ks pos) te) (hr:QA X es t):QA X (.Call f as ks pos::es) (cu te t):=⟨a8z h.run hr.run⟩
theorem fc {a b:Expr}{op:Operator}(h:QE X (.BinOp a op b pos) te) (hr:QA X es t):QA X (.BinOp a op b pos::es) (cu te t):=⟨aa4 h.run hr.run⟩
theorem il {X:Cx}:QTs X [] tYes:=⟨zq ⟩
theorem sd {X:Cx}{c:Expr}{t:TT}(h:QT X c t):QTs X [c] t:=⟨zy h.run⟩
end
theorem vk {X:Cx}{o i:Expr}{to ti:TE}{t:TSet}{pos:Pos}(ho:QE X o to) (hi:QE X i ti) (hs:PSet X t)
   (ha:∀v,assign (.Subscript o i pos) X.env v=(do
     let ov<-holding [v] (eval o X.env)
     let iv<-holding [v,ov] (eval i X.env)
     standAt pos
     holding [v,ov,iv] (setItem ov iv v)
     release [v,ov,iv] []):=by intro _;rfl):QG X (.Subscript o i pos) (gSub to ti t):=⟨a9r ho.run hi.run hs ha⟩
theorem Fun.okQ {P:Program}{w:World}{K:Ab}{mg:Str->Option Value}{base:Heap}{x qual:Str}{st:Stmt}{f:Addr}{fd:FuncData}{N ps:List Str}{k:Nat}{sp:Sp}(F:Fun K x qual st f fd) (S:FnScope N ps (aq st)) (len:∀vs H Q E,sp vs H Q E->vs.length=ps.length)
   (hbody:∀(cdv:Value) (A:Around) (outer:List Env) (s:Shared) (H:Hp) (vs:List V) (Q:VK) (E:XK),Room k (A.deeper (envOfC qual (aq st) s.heap.objs.size f cdv))->sp vs H Q E->
     ∃t,QB (cxOf CX0 P w K mg base N qual (aq st) f cdv A outer s H E).nox (gr st) t/\t { nx:=fun _ H'=>Q .non H',rt:=Q } (ii N vs) H):FnOk P w K mg base CX0 (k+1) f fd ps sp :=
 F.ok S len fun cdv A outer s H vs Q E hr h=>by
   obtain⟨t,h1,h2⟩:=hbody cdv A outer s H vs Q E hr h
   exact⟨t,h1.run,h2⟩
section
variable {X:Cx}{st:Stmt}{t:TS}{e:Expr}{te:TE}
end
section
variable {id:String}
set_option autoImplicit true
set_option relaxedAutoImplicit true
theorem du {K:Ab}(hK:X.K=K) (pa:PlainAttrs T) (slot:Slot T name id) (hty:typeOf (.builtin id)=pure (.type "method_descriptor")) (hm:MtR X id r) (ho:QE X o to) (ha:QA X (e::es) t) (hbase:attributeBase o name X.env (eval o X.env)=eval o X.env:=by rfl) (hfew:((backTo cpos (starEach (e::es) X.env)).all (fun x => !x.1) && (backToKw cpos (keywordEach [] X.env)).all (fun x=>x.1.isSome)       && decide ((e::es).length+([]:List Keyword).length+(if ([]:List Keyword).isEmpty then 0 else 1)<30))=true:=by rfl) (hline:(apos.endLine == cpos.line)=true:=by rfl) (hs:starEach (e::es) X.env=(false,eval e X.env)::starEach es X.env:=by rfl) (hplain:(backTo cpos (starEach es X.env)).any (·.1)=false:=by rfl):QE X (.Call (.Attribute o name apos) (e::es) [] cpos) (tBM K T r to t):=by
 subst hK
 exact⟨a70 pa slot hty hm ho.run ha.run hbase hfew hline hs hplain⟩
end
section
variable {X:Cx}{pins:List (Addr×Obj)}{σ:St}{H:Hp}{s:Shared}{h':Heap}
theorem Inv.turnedL {t':Nat}{ch:List Addr}(I:Inv X pins σ H s) (k:∀b o,b∉ch->s.heap.get? b=some o->h'.get? b=some o) (hc:∀b∈ch,FpOk X pins H b):Inv X pins σ H { s with heap:=h',toks:=t' }:=by
 have nit:∀b u,H b=some u->b∉ch:=fun b u e z=>by rw[(hc b z).1] at e;cases e
 refine I.step (g':=s.gens) (d':=s.drawn) (ch:=ch) (fun b hb=>⟨(hc b hb).2.2.2.1,(hc b hb).2.1,(hc b hb).2.2.2.2.1,(hc b hb).2.2.2.2.2⟩) (fun b o _ _ hn e _=>k b o hn e) (fun b o _ _ hn e _=>⟨o.slots,k b o hn e⟩) (fun _ _ _ _ n=>n)
   (fun b o hn e=>⟨o,k b o hn e⟩) (fun _ _ e=>e) (fun _ _ _ e=>e) (fun b ps e=>⟨#[],by rw[e];simp⟩) (fun m hm=>?_) (fun b u e=>?_) I.bare
 . obtain⟨o,es,ep,ho,r⟩:=hm
   exact⟨o,es,ep,k _ o (fun z=>(hc _ z).2.1 rfl) ho,r⟩
 . refine (I.hok b u e).stay (fun c v hcv q=>k c v ?_ q) (fun _ q=>q) fun _ _ q=>q
   rcases hcv with z|z
   . rw[z];exact nit b u e
   . exact nit c _ z
end
noncomputable def bg (n:Addr):List Addr:=[n+4,n+2,n+3,n,n+1]
theorem gy {n l1 l2:Nat}(h1:l1∉bg n) (h2:l2∉bg n):ZipApart (n+4) (n+2) (n+3) n (n+1) l1 l2:=by
 unfold bg at h1 h2
 simp only[Aq,AE,or_false,not_or] at h1 h2
 have nn:∀a b:Nat,a≠b->n+a≠n+b:=fun a b h=>by omega
 have n0:∀a:Nat,a≠0->n≠n+a:=fun a h=>by omega
 exact⟨nn 2 4 (by decide),nn 3 4 (by decide),n0 4 (by decide),nn 1 4 (by decide),nn 2 3 (by decide),(n0 2 (by decide)).symm,nn 2 1 (by decide),(n0 3 (by decide)).symm,nn 3 1 (by decide),n0 1 (by decide),h1.1,h1.2.2.1,h1.2.2.2.1,h1.2.2.2.2,h2.1,h2.2.2.1,h2.2.2.2.1,h2.2.2.2.2⟩
section
variable {X:Cx}
end
section
variable {X:Cx}
theorem a0g {elt iter:Expr}{x yv:Str}{px pos py pos2:Pos}{iy:Nat}{ifs:List Expr}{sc:Scope}{cl:List (Str×Addr)}{ix:List Nat}{wi:TI}{tc:TT}{te:TE}(N:List Str) (hNd:X.N.Nodup) (hiy:X.N[iy]? = some yv) (hyv:Loc X.env.scope yv) (hsw:swapsWith (.ListComp elt [⟨.Name x px,iter,ifs,0⟩] sc pos) (some (.Name yv py)) pos2.line X.env=pure true) (hfy:X.fn yv=true\/X.env.scope.names.lookup yv=some .local)
   (hc:X.calm=true) (hi:PI X (.Name x px) iter wi) (hif:∀s H C ex,PTs (blk X N s H sc cl C ex) ifs tc) (he:∀s H C ex,PE (blk X N s H sc cl C ex) elt te)
   (hkind:sc.kind=.function) (hN:N=x::ix.map fun j=>(X.N[j]?).getD "") (hnd:N.Nodup) (hx:sc.names.lookup x=some .local)
   (hcl:closureFor sc X.env=pure cl) (hcell:∀y∈sc.names,y.2≠.cell) (hnames:∀y∈sc.names,y.2=.local->sc.names.lookup y.1=some .local)
   (hsub:∀y c,cl.lookup y=some c->X.env.cells.lookup y=some c) (hhas:∀y,((relabel sc X.env).names.lookup y=some .cell\/(relabel sc X.env).names.lookup y=some .free)->∃c,cl.lookup y=some c)
   (hix:∀j∈ix,∃y,X.N[j]? = some y/\X.env.kindOf y=some .cell/\(relabel sc X.env).names.lookup y=some .cell)
   (hs:∀x,foldedSetIterable iter X.env x=pure x:=by intro _;rfl) :
   PS X (.Assign [.Name yv py] (.ListComp elt [⟨.Name x px,iter,ifs,0⟩] sc pos) pos2) (tAsg (ko ix wi tc te) (b7 iy)):=by
 intro pins s σ H D0 I h
 rw[exec_Assign_Name_used _ _ _ _ hsw]
 refine Aa (Eo (Aa ?_))
 show wpAny _ _ (comprehension _ _ _ _ _ _ _ _ >>= _) _ _ _
 refine Aa (BH (Q:=fun _ s'=>SP X pins D0 .next s') (sy N hc hi hif he hkind hN hnd hx hcl hcell hnames hsub hhas hix hs (use:=some (assign (.Name yv py) X.env)) I h fun D C s6 H5 mm I7 hm hCn hCl hCc hsz hpin qn=>?_) (fun _ s' q=>Ae (Ae q)) fun _ _ y=>y)
 refine Fk (sw I7 hNd hiy hyv (show RelV (V.ref D) (Value.ref D) from rfl) (fun s8 I8 hsb=>?_) hfy)
 obtain⟨a8,sb8,ha8⟩:=hsb
 have hna:C≠a8:=by
   rcases ha8 with z|z
   . rw[z];exact hCl
   . exact Br (hCc _ _ z)
 obtain⟨oC,esC,epC,hoC,rC⟩:=hm
 refine⟨mm,⟨oC,esC,epC,sb8.extBut _ _ hna hoC,rC⟩,fun h9 sb9=>?_⟩
 exact⟨_,H5,I8.turned (t':=s8.toks) (it:=C) (fun b o hb e=>sb9.extBut b o hb e) hCn hCl (.inr hsz) hCc hpin,qn⟩
end
section
variable {X:Cx}
theorem jw {pos:Pos}:QE X (.Dict [] [] pos) a48:=⟨a54⟩
theorem em {o i:Expr}{pos:Pos}{td ty:TE}(hu:X.A.units+1<cLine) (ho:QE X o td) (hi:QE X i ty) (hs:NoSl i):QE X (.Subscript o i pos) (a75 td ty):=⟨a93 hu ho.run hi.run hs⟩
theorem a2u {o i:Expr}{pos:Pos}{td ty:TE}(hu:X.A.units+1<cLine) (hi:QE X i ty) (ho:QE X o td) (hm:behindInMarks .NotIn o=false:=by with_unfolding_all rfl):QT X (.Compare i [.NotIn] [o] pos) (tB (zg ty td)):=⟨a9i (a2a hu hi.run ho.run) hm⟩
theorem cm {o i value:Expr}{pos pos':Pos}{td ty tv:TE}(hu:X.A.units+1<cLine) (ho:QE X o td) (hi:QE X i ty) (hv:QE X value tv) (hs:swapsWith value (some (.Subscript o i pos')) pos.line X.env=pure false:=by rfl) :
   QS X (.Assign [.Subscript o i pos'] value pos) (ut td ty tv):=⟨a89 hu ho.run hi.run hv.run hs⟩
theorem a6c {o e f:Expr}{apos cpos:Pos}{td ty tx:TE}(hu:X.A.units+1<cLine) (ho:QE X o td) (he:QE X e ty) (hf:QE X f tx) (m:M2 X o "get" apos e f cpos:=by exact⟨rfl,rfl,rfl,rfl⟩) :
   QE X (.Call (.Attribute o "get" apos) [e,f] [] cpos) (a2f td ty tx):=⟨a4w hu ho.run he.run hf.run m⟩
theorem j6:c7 X (.type "dict") (fun xs H Q=>∃a kvs,xs=[V.ref a]/\H a=some (.dK kvs)/\∀p,H p=none->Q (.ref p) (upd H p (.dK kvs))):=by
 intro pins s σ H xs us Q I r h
 obtain⟨a,kvs,rfl,ha,q⟩:=h
 obtain⟨u,rfl,ru⟩:=km r
 cases ru
 exact a55 I (.inl ha) fun p s' hp I'=>⟨.ref p,_,I',rfl,q p hp⟩
theorem zw {P:Program}{w:World}{k:Key}{v:Value}(h:(bz P w).is k v=true):RelV (kV k) v:=by
 rcases c6 h with⟨i,t,rfl,rfl⟩|⟨x,t,rfl,rfl⟩
 . exact⟨t,rfl⟩
 . exact⟨t,rfl⟩
theorem uy:∀{ks:List V}{vs:List Value},vs.length=ks.length->(∀(j:Nat) (v:Value),vs[j]? = some v->∃y,ks[j]? = some y/\RelV y v)->Vals ks vs
 | [],[],_,_=>.nil
 | k::ks,v::vs,hl,h=>by
   obtain⟨y,e,r⟩:=h 0 v rfl
   cases e
   exact .cons r (uy (by simpa using hl) fun j u hu=>h (j+1) u (by simpa using hu))
theorem rn (hc:X.calm=true):c7 X (.type "list") (fun xs H Q=>∃a kvs,xs=[V.ref a]/\H a=some (.dK kvs)/\∀p,H p=none->Q (.ref p) (upd H p (.lst (kvs.map fun kv=>kV kv.1)))):=by
 intro pins s σ H xs us Q I r h
 obtain⟨a,kvs,rfl,ha,q⟩:=h
 obtain⟨u,rfl,ru⟩:=km r
 cases ru
 obtain⟨z,hd,vs,rel,dd⟩:=fw I.hok (.inl ha)
 have hl:=rel.length
 obtain⟨ep,da⟩:=dd.dictAt
 refine PySem.W.kdl_call (PySem.W.kdl_dict hd) (I.ok.hd hc) da (by rw[<- hl];exact z) fun h' tk acc c hk hD hacc=>?_
 refine⟨.ref s.heap.objs.size,_,I.laid (t':=tk) hk (Aj _) (show ObjOk X.prog X.w _ h' _ (.lst (kvs.map fun kv=>kV kv.1)) from⟨by rw[Ad];exact z,acc.toList,c,?_,by simpa using hD⟩),rfl,q _ (I.hok.fresh (Aj _))⟩
 refine uy (by rw[Ba,Ad,hl];exact hacc.1) fun j v hv=>?_
 obtain⟨k,x,e,ke⟩:=hacc.2 j v (by rw[<- BK];exact hv)
 have ek:=rel.keys
 have e2:(vs.map (·.1))[j]? = some k:=by rw[Ai,e];rfl
 rw[<- ek,Ai] at e2
 refine⟨kV k,?_,zw ke⟩
 rw[Ai]
 cases hj:kvs[j]? with
 | none=>rw[hj] at e2;cases e2
 | some p=>rw[hj] at e2;rw[<- Ay e2];rfl
theorem q8:c7 X (.builtin "sorted") (fun vs H Q=>∃(a:Addr) (ss:List Str),vs=[.ref a]/\SqL X.K H a (ss.map V.str)/\ss.length<64/\
   ∀p zs,H p=none->zs.Perm ss->sortedS zs=true->Q (.ref p) (upd H p (.lst (zs.map V.str)))):=by
 intro pins s σ H vs us Q I r h
 obtain⟨a,ss,rfl,hq,hz,q⟩:=h
 obtain⟨u,rfl,ru⟩:=r.one
 cases ru
 obtain⟨its,rv,p,_⟩:=I.list hq
 have hs:=md rv
 have hl:its.length=ss.length:=hs.length
 refine sorted_strs p.isList hs (by omega) fun out zs a1 a2 a3=>?_
 obtain⟨e,he⟩:=sortedAll_at s.heap its out
 have fr:H (s.heap.objs.size+1)=none:=I.hok.fresh (Du _)
 have hzl:zs.length<64:=by rw[a2.length_eq];exact hz
 exact⟨.ref (s.heap.objs.size+1),upd H (s.heap.objs.size+1) (.lst (zs.map V.str)),I.laid (t':=s.toks) (fun b o hb=>sortedAll_old hb) (Du _) ⟨by rw[Ad];exact Bw (dq (by omega)),out.toList,e,lv a1,by simpa [seqObj] using he⟩,rfl,q _ zs fr a2 a3⟩
end
theorem jd:∀{ks:List (Key×Value)}{k:Key}{v:Value},(ks.map (·.1)).Nodup->(k,v)∈ks->valueAt ks k=some v
 | [],_,_,_,hm=>by simp at hm
 | q::r,k,v,hnd,hm=>by
   rw[AC,AX] at hnd
   unfold valueAt
   by_cases hq:q.1=k
   . rcases Aq.mp hm with rfl|hm'
     . simp
     . exact absurd (A9.mpr ⟨(k,v),hm',hq.symm⟩) hnd.1
   . rcases Aq.mp hm with rfl|hm'
     . exact absurd rfl hq
     . have:=jd hnd.2 hm'
       unfold valueAt at this
       simp only[BQ]
       simp[hq,this]
noncomputable def a6z:V->Bool
 | .byt _=>false
 | .flt _=>false
 | _=>true
theorem vt {A:Around}{s:Shared}{v:V}{u u':Value}(hv:a6z v=true) (r:RelV v u) (r':RelV v u'):Hi A s u u' true:=by
 cases v with
 | non=>cases r;cases r';exact DP _
 | bl b=>cases r;cases r';exact DP _
 | int i =>
   obtain⟨t,rfl⟩:=r
   obtain⟨t',rfl⟩:=r'
   have:=HH (A:=A) (s:=s) i t i t'
   simpa using this
 | str x =>
   obtain⟨t,rfl⟩:=r
   obtain⟨t',rfl⟩:=r'
   have:=HI (A:=A) (s:=s) x t x t'
   simpa using this
 | byt b=>cases hv
 | flt b=>cases hv
 | ref a=>cases r;cases r';exact DP _
 | ty n=>cases r;cases r';exact DP _
theorem pq {A:Around}{s:Shared}{kb:List (Key×Value)}:∀ls:List (Key×Value),(∀p∈ls,∃y,valueAt kb p.1=some y/\Hi A s p.2 y true)->PySem.W.KeqHits A s kb ls true
 | [],_=>.nil
 | (k,v)::ls,h=>by
   obtain⟨y,e1,e2⟩:=h (k,v) (Ah ..)
   have:=PySem.W.KeqHits.hit (A:=A) (s:=s) (kb:=kb) e1 e2 (pq ls fun p hp=>h p (An _ hp))
   simpa using this
section
variable {X:Cx}
theorem qx {P:Program}{w:World}{h:Heap}{a:Addr}{vs:List (Key×Value)}(d:h.DictOf (bz P w) a vs):(vs.map (·.1)).Nodup:=by
 obtain⟨_,_,_,_,_,_,_,_,hn⟩:=d
 exact hn
end
theorem x8 {L:List (Str×NameKind)}{cl:List (Str×Addr)}{ks:List Str}(hkm:cl.map (·.1)=ks) (hkB:(L.all fun y=>(match y.2 with|.cell=>false|.free=>false|_=>true) || decide (y.1∈ks))=true) (z:Str) (h:L.lookup z=some .cell\/L.lookup z=some .free):∃c,cl.lookup z=some c:=by
 have hm:z∈cl.map (·.1):=by
   rw[hkm]
   rcases h with h|h
   . have:=Da.mp hkB _ (BG h)
     simpa using this
   . have:=Da.mp hkB _ (BG h)
     simpa using this
 clear hkm hkB
 induction cl with
 | nil=>simp at hm
 | cons p r ih =>
   rw[CA]
   cases hb:z == p.1 with
   | true=>exact⟨_,rfl⟩
   | false =>
     rw[AC,Aq] at hm
     rcases hm with h1|h1
     . rw[h1] at hb;simp at hb
     . exact ih h1
section
variable {X:Cx}
theorem w9:c7 X (.builtin "isinstance") (fun xs H Q=>∃i,xs=[.int i,.ty "int"]/\Q (.bl true) H):=by
 intro pins s σ H xs us Q I r h
 obtain⟨z,rfl,q⟩:=h
 cases r with
 | cons r1 r =>
   cases r with
   | cons r2 r =>
     cases r
     obtain⟨t,rfl⟩:=r1
     cases r2
     exact IsiPair.int_int ⟨.bl true,H,I,rfl,q⟩
theorem yf:c7 X (.builtin "isinstance") (fun xs H Q=>∃i,xs=[.int i,.ty "bool"]/\Q (.bl false) H):=by
 intro pins s σ H xs us Q I r h
 obtain⟨z,rfl,q⟩:=h
 cases r with
 | cons r1 r =>
   cases r with
   | cons r2 r =>
     cases r
     obtain⟨t,rfl⟩:=r1
     cases r2
     exact IsiPair.int_bool ⟨.bl false,H,I.tok _,rfl,q⟩
end
theorem vg {cl cells:List (Str×Addr)}(h:∀p∈cl,cells.lookup p.1=some p.2) (y:Str) (c:Addr) (e:cl.lookup y=some c):cells.lookup y=some c:=h (y,c) (BG e)
inductive ClIn (cells:List (Str×Addr)):List (Str×Addr)->Prop
 | nil:ClIn cells []
 | cons {x:Str} {a:Addr} {r:List (Str×Addr)}:cells.lookup x=some a->ClIn cells r->ClIn cells ((x,a)::r)
theorem ClIn.all {cells cl:List (Str×Addr)}(h:ClIn cells cl):∀p∈cl,cells.lookup p.1=some p.2:=by
 induction h with
 | nil=>intro p hp;cases hp
 | cons h _ ih =>
   intro p hp
   rcases Aq.mp hp with rfl|z
   . exact h
   . exact ih p z
inductive IxIn (X:Cx) (sc:Scope):List Nat->Prop
 | nil:IxIn X sc []
 | cons {j:Nat} {y:Str} {r:List Nat}:X.N[j]? = some y->X.env.kindOf y=some .cell->(relabel sc X.env).names.lookup y=some .cell->IxIn X sc r->IxIn X sc (j::r)
theorem IxIn.all {X:Cx}{sc:Scope}{ix:List Nat}(h:IxIn X sc ix):∀j∈ix,∃y,X.N[j]? = some y/\X.env.kindOf y=some .cell/\(relabel sc X.env).names.lookup y=some .cell:=by
 induction h with
 | nil=>intro p hp;cases hp
 | cons h1 h2 h3 _ ih =>
   intro p hp
   rcases Aq.mp hp with rfl|z
   . exact⟨_,h1,h2,h3⟩
   . exact ih p z
theorem a5w {X:Cx}{elt iter:Expr}{x:Str}{px pos:Pos}{ifs:List Expr}{sc:Scope}{cl:List (Str×Addr)}{wi:TI}{tc:TT}{te:TE}(N:List Str) (ix:List Nat) (hi:QI X (.Name x px) iter wi)
   (hif:∀s H C ex,QTs (blk X N s H sc cl C ex) ifs tc) (he:∀s H C ex,QE (blk X N s H sc cl C ex) elt te)
   (hcl:closureFor sc X.env=pure cl:=by rfl) (hcs:ClIn X.env.cells cl:=by repeat' first|with_unfolding_all rfl|constructor) (hN:N=x::ix.map (fun j=>(X.N[j]?).getD ""):=by rfl) (hnd:N.Nodup:=by decide +kernel)
   (hkm:cl.map (·.1)=N.tail:=by rfl) (hkB:((relabel sc X.env).names.all fun y=>(match y.2 with|.cell=>false|.free=>false|_=>true) || decide (y.1∈N.tail))=true:=by with_unfolding_all rfl)
   (hix:IxIn X sc ix:=by repeat' first|with_unfolding_all rfl|constructor)
   (hx:sc.names.lookup x=some .local:=by decide +kernel) (hcell:∀z∈sc.names,z.2≠.cell:=by decide +kernel)
   (hnames:∀z∈sc.names,z.2=.local->sc.names.lookup z.1=some .local:=by decide +kernel)
   (hc:X.calm=true:=by rfl) (hkind:sc.kind=.function:=by rfl) (hs:∀x,foldedSetIterable iter X.env x=pure x:=by intro _;rfl) :
   QE X (.ListComp elt [⟨.Name x px,iter,ifs,0⟩] sc pos) (ko ix wi tc te) :=
 ⟨ym N hc hi.run (fun s H C ex=>(hif s H C ex).run) (fun s H C ex=>(he s H C ex).run) hkind hN hnd hx hcl hcell hnames (vg hcs.all) (x8 hkm hkB) hix.all hs⟩
theorem xj {X:Cx}{elt iter:Expr}{x yv:Str}{px pos py pos2:Pos}{i:Nat}{ifs:List Expr}{sc:Scope}{cl:List (Str×Addr)}{wi:TI}{tc:TT}{te:TE}(N:List Str) (ix:List Nat) (hNd:X.N.Nodup) (hiy:X.N[i]? = some yv) (hyv:Loc X.env.scope yv) (hi:QI X (.Name x px) iter wi)
   (hif:∀s H C ex,QTs (blk X N s H sc cl C ex) ifs tc) (he:∀s H C ex,QE (blk X N s H sc cl C ex) elt te)
   (hsw:swapsWith (.ListComp elt [⟨.Name x px,iter,ifs,0⟩] sc pos) (some (.Name yv py)) pos2.line X.env=pure true:=by rfl) (hfy:X.fn yv=true\/X.env.scope.names.lookup yv=some .local:=by first|exact .inl rfl|exact .inr rfl|assumption)
   (hcl:closureFor sc X.env=pure cl:=by rfl) (hcs:ClIn X.env.cells cl:=by repeat' first|with_unfolding_all rfl|constructor) (hN:N=x::ix.map (fun j=>(X.N[j]?).getD ""):=by rfl) (hnd:N.Nodup:=by decide +kernel)
   (hkm:cl.map (·.1)=N.tail:=by rfl) (hkB:((relabel sc X.env).names.all fun y=>(match y.2 with|.cell=>false|.free=>false|_=>true) || decide (y.1∈N.tail))=true:=by with_unfolding_all rfl)
   (hix:IxIn X sc ix:=by repeat' first|with_unfolding_all rfl|constructor)
   (hx:sc.names.lookup x=some .local:=by decide +kernel) (hcell:∀z∈sc.names,z.2≠.cell:=by decide +kernel)
   (hnames:∀z∈sc.names,z.2=.local->sc.names.lookup z.1=some .local:=by decide +kernel)
   (hc:X.calm=true:=by rfl) (hkind:sc.kind=.function:=by rfl) (hs:∀x,foldedSetIterable iter X.env x=pure x:=by intro _;rfl) :
   QS X (.Assign [.Name yv py] (.ListComp elt [⟨.Name x px,iter,ifs,0⟩] sc pos) pos2) (tAsg (ko ix wi tc te) (b7 i)) :=
 ⟨a0g N hNd hiy hyv hsw hfy hc hi.run (fun s H C ex=>(hif s H C ex).run) (fun s H C ex=>(he s H C ex).run) hkind hN hnd hx hcl hcell hnames (vg hcs.all) (x8 hkm hkB) hix.all hs⟩
section
variable {X:Cx}{CX:CXT}{k:Nat}{f C:Addr}{fd:FuncData}{ps:List Str}{ds:List Value}{dvs:List V}{sp:Sp}{E:XK}{x m fl:Str}{p pos pos' apos:Pos}{e o value:Expr}{es:List Expr}{ta tv:TE}{t:TA}
theorem a9h (he:QE X e ta) (hb:attributeBase e fl X.env (eval e X.env)=eval e X.env:=by rfl):QE X (.Attribute e fl pos) (tFld X.K ta fl):=⟨aa2 he.run hb⟩
theorem aah (ha:QE X o ta) (hv:QE X value tv) (hs:swapsWith value (some (.Attribute o fl pos')) pos.line X.env=pure false:=by rfl):QS X (.Assign [.Attribute o fl pos'] value pos) (sFld X.K ta tv fl):=⟨aaa ha.run hv.run hs⟩
theorem cj {pl:Sem Bool}(he:QE X o ta) (c:Cls X.K C) (hm:Meth X.K C m f) (F:FnOk X.prog X.w X.K X.mg X.base CX k f fd ps sp) (hr:Room k X.A) (hb:Binds X.K fd ps ds) (hd:Vals dvs ds) (hx:fg CX X E) (ha:QA X (e::es) t)
   (hst:starEach (e::es) X.env=(false,eval e X.env)::starEach es X.env:=by rfl) (hpl:(backTo pos (starEach es X.env)).any (·.1)=false:=by rfl)
   (ht:eval (.Call (.Attribute o m apos) (e::es) [] pos) X.env=(do
     let ov<-eval o X.env
     standAt apos.atName
     let (f,first)<-holding [ov] (getMethod ov m pl)
     callWith pos f first (backTo pos (starEach (e::es) X.env)) (backToKw pos (keywordEach [] X.env))):=by rfl) :
   QE X (.Call (.Attribute o m apos) (e::es) [] pos) (ur C m sp dvs E ta t):=⟨a92 he.run c hm F hr hb hd hx ha.run hst hpl ht⟩
theorem cy {pl:Sem Bool}(he:QE X o ta) (c:Cls X.K C) (hm:Meth X.K C m f) (F:FnOk X.prog X.w X.K X.mg X.base CX k f fd ps sp) (hr:Room k X.A) (hb:Binds X.K fd ps ds) (hd:Vals dvs ds) (hx:fg CX X E)
   (ht:eval (.Call (.Attribute o m apos) [] [] pos) X.env=(do
     let ov<-eval o X.env
     standAt apos.atName
     let (f,first)<-holding [ov] (getMethod ov m pl)
     callWith pos f first (backTo pos (starEach [] X.env)) (backToKw pos (keywordEach [] X.env))):=by rfl) :
   QE X (.Call (.Attribute o m apos) [] [] pos) (ur C m sp dvs E ta tNil):=⟨a5f he.run c hm F hr hb hd hx ht⟩
theorem rg (M:Mk X.K C f) (F:FnOk X.prog X.w X.K X.mg X.base CX k f fd ps sp) (hr:Room (k+1) X.A) (hg:Gl X x) (hm:X.mg x=some (.ref C)) (hb:Binds X.K fd ps ds) (hd:Vals dvs ds) (hx:fg CX X E)
   (ha:QA X (e::es) t) (hdb:(x == ("__debug__" : Str))=false:=by decide) (he:starEach (e::es) X.env=(false,eval e X.env)::starEach es X.env:=by rfl) (hpl:(backTo pos (starEach es X.env)).any (·.1)=false:=by rfl) :
   QE X (.Call (.Name x p) (e::es) [] pos) (a7d C sp dvs E t):=⟨a97 M F hr hg hm hb hd hx ha.run hdb he hpl⟩
end
section
variable {X:Cx}{pins:List (Addr×Obj)}{σ:St}{H:Hp}{s:Shared}{a:Addr}{y d:V}{u r:Value}{A:Around}{E:Value->Shared->Prop}
end
section
variable {X:Cx}{o e f:Expr}{apos cpos:Pos}{td ty tx:TE}
end
section
variable {prog:Program}{w:World}{A:Around}{E:Value->Shared->Prop}{s:Shared}{J d:Addr}{n ep:Nat}{es:Array DictEntry}{od:Obj}
theorem xb {Q:Option Value->Shared->Prop}(hj:s.heap.IsKeyIter J d n es.size ep) (h1:s.heap.get? d=some od) (h2:od.data=.dict es ep) (hh:A.handled=none)
   (q1:∀(hn:n<es.size) h',h'.IsKeyIter J d (n+1) es.size ep->Ck J s.heap h'->Q (some es[n].key) { s with heap:=h' }) (q2:es.size<=n->∀h',Ge J s.heap h'->Q none { s with heap:=h' }) :
   wpAny (model prog w) A (pyNext (.ref J)) Q E s:=by
 obtain⟨oj,g1,g2,g3⟩:=id hj
 have ty:=hj.typeIs
 have no:Builtin.Dict_items.ownsTuple "dict_keyiterator" = false:=by decide
 have nn:¬ ((Value.ref d == Value.none)=true):=Am
 have pos:¬ ((n:Int)<0):=by omega
 unfold pyNext
 refine Aa (CO (Bc (name:=Bq "__next__") ty Ej (Bj Ej ty PySem.F.entry_dict_keyiterator_next ?_ (PySem.F.args_dict_keyiterator_next_1 _))))
 refine Aa (Ae (Aa (Aa ?_)))
 first|refine Aa (Dx ty (Ae (Aa (EM g1 g3 ?_))))|refine Aa (DZ ty (Ae (Aa (EM g1 g3 ?_))))
 simp only[no,Bo,if_false]
 show wpAny _ _ (if (Value.ref d == Value.none)=true then _ else _) _ _ s;rw[if_neg nn]
 refine Aa (Ae (Aa (Ig h1 h2 ?_)));rw[if_neg (by simp)]
 refine Aa (Ae (Aa (wpAny_dictEpoch h1 h2 ?_)));rw[if_neg (by simp)];refine Ae ?_
 by_cases hn:n<es.size
 . simp only[pos,if_false,BI,Fv hn]
   refine Aa ?_
   first|refine Aa (Dx ty (Ae (Aa (Ew ty ?_))))|refine Aa (DZ ty (Ae (Aa (Ew ty ?_))))
   show wpAny _ _ (setField (.ref J) 1 (rawInt ((n:Int)+1)) >>= _) _ _ s;refine Aa (ER g1 g3 (by simp) ?_)
   have hj':(s.heap.update J (Fi (·.setIfInBounds 1 (rawInt ((n:Int)+1))))).IsKeyIter J d (n+1) es.size ep:=⟨_,Bp _ g1 (DD (CJ g3 _)),(Ek ..).trans g2,(by rw[CJ g3];simp[rawInt])⟩
   refine Aa (AS (Aa (Ew (s:={ s with heap:=s.heap.update J (Fi (·.setIfInBounds 1 (rawInt ((n:Int)+1)))) }) hj'.typeIs ?_)))
   exact Ae (Ae ⟨_,rfl,Ae (q1 hn _ hj' (Cz ..))⟩)
 . simp only[pos,if_false,BI,Array.getElem?_eq_none (Fy hn)]
   refine Aa ?_
   first|refine Aa (Dx ty (Ae ?_))|refine Aa (DZ ty (Ae ?_))
   show wpAny _ _ (setField (.ref J) 0 .none >>= _) _ _ s;refine Aa (ER g1 g3 (by simp) (Aa ?_))
   simp only[newExc,newTuple];refine Aa (AV ?_ (by size_fits))
   refine Aa (m:=firstArgMember _ _) (EV (a:=Value.none) (by first|rfl|(simp only[firstArgMember];rfl)) (AV ?_ (by size_fits)))
   simp only[raiseNew];refine Aa (wpAny_handled ?_);rw[show A.in1.handled=none from hh]
   refine Aa (Ae (wpAny_throw ?_));have sub:=EN
   refine Aa (DJ (T := "StopIteration") (b:=true) ⟨_,Ak _ rfl,rfl⟩ sub ?_)
   exact Ae (q2 (Fy hn) _ (((Cz ..).extBut.push _).push _))
theorem a5e {Q:Value->Shared->Prop}(hd:(d == sysModules)=false) (h1:s.heap.get? d=some od) (hc:od.ExactDict) (h2:od.data=.dict es ep)
   (q:Q (.ref s.heap.objs.size) { s with heap:=s.heap.push { cls:=.type "dict_keyiterator",data:=.fields #[.ref d,.int 0 0,.int es.size 0,.int ep 0] } }):wpAny (model prog w) A (pyIter (.ref d)) Q E s:=by
 have ty:s.TypeIs (.ref d) "dict" := ⟨od,h1,hc.1⟩
 refine Fm ty Gf (Bj Gf ty PySem.F.entry_dict_iter ?_ (PySem.F.args_dict_iter_1 _))
 unfold Builtin.«dict.__iter__»;refine Aa ?_;unfold Builtin.Dict.dictSlotNone
 refine Aa (Ex ty (Ae ?_))
 show wpAny _ _ (G0 d >>= _) _ _ s;unfold G0
 rw[if_neg (show ¬ (d == sysModules)=true by rw[hd];exact Am)]
 refine Aa (Ae (Aa (Ig h1 h2 (Aa (wpAny_dictEpoch h1 h2 ?_)))))
 exact Aa (AV (Ae ⟨_,rfl,"dict_keyiterator",_,⟨_,Ak _ rfl,rfl⟩,PySem.F.slot_dict_keyiterator_next.lookup,q⟩))
end
section
variable {X:Cx}
end
noncomputable def NF (X:Cx) (a:Addr):Prop:=∀o u,X.H₀ a≠some (.frz o u)
section
variable {X:Cx}{pins:List (Addr×Obj)}{σ:St}{H:Hp}{s:Shared}{a:Addr}{u:HO}{o:Obj}
theorem Inv.nf (I:Inv X pins σ H s) (e:H a=some u) (hu:∀o v,u≠.frz o v):NF X a:=fun o v z=>by
 have:=I.base.frzs a o v z
 rw[e] at this
 exact hu o v (Ay this)
theorem Inv.thaw (I:Inv X pins σ H s) (e:H a=some (.frz o u)) (nf:NF X a):Inv X pins σ (upd H a u) s:=by
 have k:∀b v,H b=some v->(∀o' u',v≠.frz o' u')->(upd H a u) b=some v:=fun b v q n=>by
   rw[ae fun z=>by rw[z,e] at q;exact n o u (Ay q).symm];exact q
 have k0:∀b,H b=none->(upd H a u) b=none:=fun b q=>by
   rw[ae fun z=>by rw[z,e] at q;cases q];exact q
 have hok:HOk X.prog X.w (upd H a u) s.heap:=fun b v q=>by
   have st:∀{c:Addr} {w':HO},ObjOk X.prog X.w H s.heap c w'->ObjOk X.prog X.w (upd H a u) s.heap c w':=fun x=>x.stay (fun _ _ _ z=>z) (fun c z=>k c _ z fun _ _ y=>by cases y) fun c xs z=>k c _ z fun _ _ y=>by cases y
   by_cases hb:b=a
   . subst hb
     rw[aa] at q
     cases q
     exact st (I.hok b _ e).2
   . rw[ae hb] at q
     exact st (I.hok b v q)
 have bs:=I.base
 refine⟨I.ok,I.os,I.bare,⟨bs.keep,bs.slot,fun b ob q n hx=>k0 b (bs.free b ob q n hx),bs.there,fun b xs q=>k b _ (bs.tups b xs q) (fun _ _ y=>nomatch y),fun b o' u' q=>?_,fun b ps q=>?_⟩,I.loc,I.cell,k0 _ I.free,fun x c z=>k0 _ (I.freeC x c z),fun p hp=>?_,hok,I.len⟩
 . have q2:=bs.frzs b o' u' q
   rw[ae fun z=>by rw[z] at q;exact nf o' u' q];exact q2
 . obtain⟨m,q2⟩:=bs.tbls b ps q
   exact⟨m,k b _ q2 fun _ _ y=>by cases y⟩
 . obtain⟨p1,p2,p3⟩:=I.pin p hp
   exact⟨p1,k0 _ p2,p3⟩
noncomputable def ab6 (X:Cx) (t:TE):TE:=fun σ H Q=>t σ H fun v H2=>∃a o u,H2 a=some (.frz o u)/\NF X a/\Q v (upd H2 a u)
theorem a7j {ex:Expr}{t:TE}(h:QE X ex t):QE X ex (ab6 X t):=⟨fun pins s σ H Q I q=>thn (h.run pins s σ H _ I q) fun w' s1 ⟨v,H1,I1,r,a,o,u,e,nf,q1⟩=>⟨v,_,I1.thaw e nf,r,q1⟩⟩
end
end L2
namespace HT
open PySem PySem.Spec PyProof.Rows L2
variable {prog:Program}{w:World}{A:Around}{E:Value->Shared->Prop}{s:Shared}
theorem getItem_tuple_whole {t sl:Addr}{items:Array Value}{vl vu:Value}{lo hi:Option Int}{Q:Value->Shared->Prop}(ht:IsTup s.heap t items) (hs:s.heap.IsSliceOf sl vl vu .none) (pl:IsPart vl lo) (pu:IsPart vu hi)
   (h1:sIx items.size 0 lo=0) (h2:sIx items.size items.size hi=items.size)
   (h:Q (.ref t) s):wpAny (model prog w) A (getItem (.ref t) (.ref sl)) Q E s:=by
 obtain⟨os,hos,hcs,hds⟩:=id hs
 have hTs:s.TypeIs (.ref sl) "slice" := ⟨os,hos,hcs⟩
 unfold getItem
 try with_reducible refine AS ?_
 first|refine Aa (Ae ?_)|skip
 refine Aa (HU ht.typeIs (by decide) ?_)
 refine Aa (Bc (name:=Bq "__getitem__") ht.typeIs BC
   (Bj BC ht.typeIs entry_tuple_getitem ?_ (args_tuple_getitem _ _)))
 show wpAny _ _ (Fg (.ref t) >>= _) _ _ s
 refine Aa (tupleItemsOf_ ht ?_)
 refine Aa (CG hTs ?_)
 rw[if_pos (by decide)]
 refine Aa (j3 hs pl pu ?_)
 have hyes:((((sIx items.size 0 lo:Nat):Int) == 0 && (1:Int) == 1 && (sIx items.size items.size hi - sIx items.size 0 lo) == items.size)=true):=by
   rw[h1,h2];simp
 show wpAny _ _ (if (((sIx items.size 0 lo:Nat):Int) == 0 && (1:Int) == 1 && (sIx items.size items.size hi - sIx items.size 0 lo) == items.size)=true then _ else _) _ _ s
 rw[if_pos hyes]
 unfold Builtin.Tuple.tupleIsExact
 refine Aa (Aa (CG ht.typeIs (Ae ?_)))
 rw[if_pos (by decide)]
 refine Aa (Cn ?_)
 exact Ae ⟨_,rfl,Ae h⟩
theorem cat_tup0 {t b:Addr}{vs ws:List Value}{Q:Value->Shared->Prop}(ht:IsTup s.heap t vs.toArray) (hb:IsTup s.heap b ws.toArray) (hv:vs=[])
   (h1:Q (.ref b) s):wpAny (model prog w) A (binaryOp .Add (.ref t) (.ref b)) Q E s:=by
 obtain⟨⟨cls,dd,data,sl⟩,ho,hc,n,hd⟩:=id ht
 obtain⟨⟨cls2,dd2,data2,sl2⟩,ho2,hc2,n2,hd2⟩:=id hb
 simp only at hc hd hc2 hd2
 subst hc hd hc2 hd2
 exact HE ⟨_,ho,rfl⟩ ⟨_,ho2,rfl⟩ Fx Hq Em Ee (DU _ _)
     (tuple_addW0 t b vs.toArray ws.toArray n n2 dd dd2 sl sl2 (by simp[hv])) ⟨ho,ho2,h1⟩
end HT
namespace L2
open PySem PySem.Spec PyProof.Rows
section
variable {X:Cx}
theorem a1f {xs:List V}{lo hi:Option Int}(h1:HT.sIx xs.length 0 lo=0) (h2:HT.sIx xs.length xs.length hi=xs.length):cutV xs lo hi=xs:=by
 unfold cutV
 rw[h1,h2,Cr,DX,Bv]
noncomputable def a0v (K:Ab):V->Option Int->Option Int->Hp->VK->Prop:=fun x lo hi H Q=>∃a xs,x=.ref a/\SqT K H a xs/\∀p H',Same H H'->SqT K H' p (cutV xs lo hi)->Q (.ref p) H'
theorem gt:SlR X (a0v X.K):=by
 intro pins s σ H x v vl vu lo hi sl Q I rx hs pl pu h
 obtain⟨a,xs,rfl,hx,q⟩:=h
 by_cases hw:HT.sIx xs.length 0 lo=0/\HT.sIx xs.length xs.length hi=xs.length
 . cases rx
   obtain⟨its,r,ht,hz⟩:=I.tuple hx
   have hlen:its.toArray.size=xs.length:=by rw[Av];exact r.length.symm
   refine⟨"tuple",_,BC.lookup,ht.typeIs,?_⟩
   refine HT.getItem_tuple_whole ht hs pl pu (by rw[hlen];exact hw.1) (by rw[hlen];exact hw.2) ?_
   refine⟨.ref a,H,I,rfl,q a H (Same.refl _) ?_⟩
   rw[a1f hw.1 hw.2];exact hx
 . exact qk pins s σ H (.ref a) v vl vu lo hi sl Q I rx hs pl pu ⟨a,xs,rfl,hx,hw,fun p hp=>q p _ (ag hp _) (SqT.of aa)⟩
noncomputable def a4a (K:Ab):R2:=fun x y H Q=>∃a b xs ys,x=.ref a/\y=.ref b/\SqT K H a xs/\SqT K H b ys/\xs.length+ys.length<=sizeLine/\∀p H',Same H H'->SqT K H' p (xs++ys)->Q (.ref p) H'
theorem wm:OpR X (binaryOp .Add) (a4a X.K):=by
 intro pins s σ H x y v u Q I rx ry h
 obtain⟨a,b,xs,ys,rfl,rfl,ha,hb,hz,q⟩:=h
 by_cases hx:xs=[]
 . cases rx
   cases ry
   obtain⟨its,r1,p1,_⟩:=I.tuple ha
   obtain⟨its2,r2,p2,_⟩:=I.tuple hb
   refine HT.cat_tup0 p1 p2 (r1.nil_iff.mpr hx) ⟨.ref b,H,I,rfl,q b H (Same.refl _) ?_⟩
   rw[hx];exact hb
 . exact o7 pins s σ H (.ref a) (.ref b) v u Q I rx ry ⟨a,b,xs,ys,rfl,rfl,ha,hb,hx,hz,fun z=>q a H (Same.refl _) (by rw[z,BP];exact ha),fun _ p hp=>q p _ (ag hp _) (SqT.of aa)⟩
end
noncomputable def Itr2 (lo:Int) (n:Nat):It:=⟨fun i _=>i<n,fun i H x H'=>H'=H/\x=.int (lo+i*2),fun i _=>n<=i⟩
theorem ye {P:Program}{w:World}{K:Ab}{tg:Expr}(it:Addr) (lo:Int) (n:Nat):Turn P w K tg (Itr2 lo n) [it] it (fun i h=>IsRangeIter h it (lo+(i:Nat)*2) ((n:Int) - (i:Nat)) 2) where
 mem:=by simp
 obj:=fun i h st b hb=>by
   obtain rfl:b=it:=by simpa using hb
   exact⟨_,st,fun v z=>by
     have z':Data.fields _=Data.cell v:=z
     cases z'⟩
 keep:=fun i h h' st k=>k it (by simp) _ st
 item:=by
   intro X hP hw hK hc i pins s σ H E I hf st hg
   subst hP hw hK
   obtain⟨f0,f1,f2,f3,f4,f5⟩:=hf it (by simp)
   refine (Jf (prog:=X.prog) (w:=X.w) (I.ok.hd hc) it lo 2 n).item i s _ _ hg st fun v h' tk hv st' kk=>?_
   obtain⟨t,rfl⟩:=hv
   have I1:Inv X pins σ H { s with heap:=h',toks:=tk }:=I.turned (fun b o hb e=>kk b o (by simpa using hb) e) f0 f1 f3 f4 f5
   exact⟨_,rfl,qq (s:={ s with heap:=h',toks:=tk }) (n := "range_iterator") st' rfl rfl (by decide) ⟨.int (lo+i*2),H,I1,⟨t,rfl⟩,⟨rfl,rfl⟩,st',fun b hb=>(hf b hb).1⟩⟩
 done:=by
   intro X hP hw hK hc i pins s σ H E I hf st hg
   subst hP hw hK
   obtain⟨f0,f1,f2,f3,f4,f5⟩:=hf it (by simp)
   exact FY (I.ok.hd hc) st (by have:n<=i:=hg;omega) fun h' eb=>⟨rfl,I.turned (t':=s.toks) (fun b o hb e=>eb b o hb e) f0 f1 f3 f4 f5⟩
 self:=fun _ _ _ _ _ st h=>FZ st h
section
variable {X:Cx}{tg:Expr}
theorem a2b {a b:Int}(h1 : -1000000<=a) (h2:a<1000000) (h3 : -1000000<=b) (h4:b<1000000):Ht a b 2=true:=by
 have fit:∀{x:Int},-10000000<=x->x<10000000->EY x=true:=fun {x} y z=>by
   unfold EY
   simp only[BR,decide_eq_true_eq]
   omega
 have sz:Cg a b 2=(((b - a+1) / 2).toNat:Int):=by
   unfold Cg
   rw[if_pos (by decide)]
   split<;>omega
 unfold Ht
 rw[sz,fit (by omega) (by omega),fit (by omega) (by omega),fit (by decide) (by decide),fit (by omega) (by omega),if_pos (by decide),fit (by omega) (by omega)]
 simp
theorem a8o {x:Int}:ES x 2=false:=by
 unfold ES
 have:decide ((if ((2:Int) == 0)=true then 0 else (2:Int).natAbs.log2 / 30+1)>300)=false:=by decide +kernel
 simp only[this,EI]
theorem a5r {a b:Int}:Cg a b 2=(((b - a+1) / 2).toNat:Int):=by
 unfold Cg
 rw[if_pos (by decide)]
 split<;>omega
theorem a2z {pins:List (Addr×Obj)}{σ:St}{H:Hp}{s:Shared}{R:It->Hp->Prop}{E:Value->Shared->Prop}{lo hi:Int}{t u v:Tok}{tk:Nat}(I:Inv X pins σ H s) (h1 : -1000000<=lo) (h2:lo<1000000) (h3 : -1000000<=hi) (h4:hi<1000000)
   (q:R (Itr2 lo ((hi - lo+1) / 2).toNat) H):wpAny (model X.prog X.w) X.A (pyIter (.ref s.heap.objs.size)) (PIE X pins σ tg R) E { s with heap:=s.heap.push { cls:=.type "range",data:=.fields #[.int lo t,.int hi u,.int 2 v] },toks:=tk }:=by
 refine Hz (Jg ..) (a2b h1 h2 h3 h4) ?_
 have I1:Inv X pins σ H { s with heap:=s.heap.push { cls:=.type "range",data:=.fields #[.int lo t,.int hi u,.int 2 v] },toks:=tk }:=I.kept fun b o e=>Ac _ e
 refine⟨(s.heap.push { cls:=.type "range",data:=.fields #[.int lo t,.int hi u,.int 2 v] }).objs.size,[(s.heap.push { cls:=.type "range",data:=.fields #[.int lo t,.int hi u,.int 2 v] }).objs.size],_,_,H,rfl,
   I1.kept (t':=tk) fun b o e=>Ac _ e,ye _ lo ((hi - lo+1) / 2).toNat,?_,fun b hb=>?_,q⟩
 . have e1:lo+((0:Nat):Int)*2=lo:=by simp
   have e2:((((hi - lo+1) / 2).toNat:Nat):Int) - ((0:Nat):Int)=Cg lo hi 2:=by rw[a5r];omega
   show IsRangeIter _ _ (lo+((0:Nat):Int)*2) (((((hi - lo+1) / 2).toNat:Nat):Int) - ((0:Nat):Int)) 2
   rw[e1,e2]
   exact Ak _ rfl
 . obtain rfl:b=(s.heap.push { cls:=.type "range",data:=.fields #[.int lo t,.int hi u,.int 2 v] }).objs.size:=by simpa using hb
   exact I1.fpOk (Aj _) (I1.hok.fresh (Aj _))
noncomputable def a6p (ta:TA):TI:=fun σ H R=>ta σ H fun vs H1=>∃i j:Int,vs=[.int i,.int j,.int 2]/\(-1000000<=i/\i<1000000 /\ -1000000<=j/\j<1000000)/\R (Itr2 i ((j - i+1) / 2).toNat) H1
theorem a2x {a b c:Expr}{ta:TA}{p pos:Pos}(hg:Gl X "range") (hm:X.mg "range" = none) (ha:PA X [a,b,c] ta) (hs:starEach [a,b,c] X.env=[(false,eval a X.env),(false,eval b X.env),(false,eval c X.env)]:=by rfl) (hs2:starEach [b,c] X.env=[(false,eval b X.env),(false,eval c X.env)]:=by rfl) :
   PI X tg (.Call (.Name "range" p) [a,b,c] [] pos) (a6p ta):=by
 intro pins s σ H R I h
 refine Call_ (fj I hg hm boot_range (Bs (thn (ha pos pins s σ H _ I h) fun us s1 ⟨vs,H1,I1,r1,q1⟩=>?_) (by rw[hs,hs2]) (by rw[hs2];rfl)))
 obtain⟨i,j,e,⟨q1,q2,q3,q4⟩,q⟩:=q1
 subst e
 cases r1 with
 | cons r rr =>
   cases rr with
   | cons r' rr =>
     cases rr with
     | cons r'' rr =>
       cases rr
       obtain⟨t,rfl⟩:=r
       obtain⟨t',rfl⟩:=r'
       obtain⟨t'',rfl⟩:=r''
       exact call_range_3 (by decide) (a2z I1 q1 q2 q3 q4 q) (.inl a8o)
theorem a4b {a b c:Expr}{ta:TA}{p pos:Pos}(hg:Gl X "range") (hm:X.mg "range" = none) (ha:QA X [a,b,c] ta) (hs:starEach [a,b,c] X.env=[(false,eval a X.env),(false,eval b X.env),(false,eval c X.env)]:=by rfl) (hs2:starEach [b,c] X.env=[(false,eval b X.env),(false,eval c X.env)]:=by rfl):QI X tg (.Call (.Name "range" p) [a,b,c] [] pos) (a6p ta):=⟨a2x hg hm ha.run hs hs2⟩
theorem a1n {lo:Int}{n:Nat}{g:TG}{tb:TS}{D:Ends}{σ:St}{H:Hp}(Pv:Nat->St->Hp->Prop) (h0:Pv 0 σ H)
   (hs:∀i σ H,i<n->Pv i σ H->g (.int (lo+i*2)) σ H fun σ2 H2=>tb { D with nx:=Pv (i+1),ct:=Pv (i+1),bk:=D.nx } σ2 H2) (hd:∀σ H,Pv n σ H->D.nx σ H) :
   ∃W:Nat->Nat->St->Hp->Prop,(∃m,W 0 m σ H)/\∀i m σ H,W i m σ H->
     ((Itr2 lo n).stop i H/\D.nx σ H)\/((Itr2 lo n).go i H/\∃N:St->Hp->Prop,(∀σ' H',N σ' H'->∃m',m'<m/\W (i+1) m' σ' H')/\∀x H',(Itr2 lo n).yld i H x H'->g x σ H' fun σ2 H2=>tb { D with nx:=N,ct:=N,bk:=D.nx } σ2 H2):=by
 refine⟨fun i m σ H=>m=n - i/\i<=n/\Pv i σ H,⟨n,rfl,A8 _,h0⟩,?_⟩
 rintro i m σ H ⟨rfl,hi,hp⟩
 by_cases c:i<n
 . refine .inr ⟨c,Pv (i+1),fun σ' H' z=>⟨n - (i+1),by omega,rfl,c,z⟩,fun x H' y=>?_⟩
   obtain⟨rfl,rfl⟩:=y
   exact hs i σ _ c hp
 . obtain rfl:i=n:=by omega
   exact .inl ⟨Aj _,hd σ H hp⟩
end
noncomputable def Itk (a:Addr) (od:Obj) (kvs:List (Key×V)):It where
 go:=fun i H=>H a=some (.frz od (.dK kvs))/\i<kvs.length
 yld:=fun i H x H'=>H'=H/\(kvs.map fun kv=>kV kv.1)[i]? = some x
 stop:=fun i H=>H a=some (.frz od (.dK kvs))/\kvs.length<=i
noncomputable def a6w (od:Obj) (kvs:List (Key×V)) (es:Array DictEntry) (ep:Nat):Prop:=od.ExactDict/\od.data=.dict es ep/\Paired (fun (p:Key×V) (e:DictEntry)=>RelV (kV p.1) e.key) kvs es.toList
theorem a2o {P:Program}{w:World}{od:Obj}{es:Array DictEntry}{ep:Nat}:∀{kvs:List (Key×V)}{vs:List (Key×Value)}{l:List DictEntry},KV kvs vs->PySem.Pairs (bz P w) l vs->Paired (fun (p:Key×V) (e:DictEntry)=>RelV (kV p.1) e.key) kvs l
 | _,_,_,.nil,.nil=>.nil
 | _,_,_,.cons h t,.cons h1 h2 t2=>.cons (by rw[h.1];exact zw h1) (a2o (od:=od) (es:=es) (ep:=ep) t t2)
theorem Paired.nthK {α β:Type}{F:α->β->Prop}:∀{l₁:List α}{l₂:List β}{i:Nat}{a:α}{b:β},Paired F l₁ l₂->l₁[i]? = some a->l₂[i]? = some b->F a b
 | _,_,0,_,_,.cons h t,h1,h2=>by cases h1;cases h2;exact h
 | _,_,i+1,_,_,.cons h t,h1,h2=>Paired.nthK (i:=i) t (by simpa using h1) (by simpa using h2)
theorem a9b {P:Program}{w:World}{K:Ab}{tg:Expr}{a J:Addr}{od:Obj}{kvs:List (Key×V)}{es:Array DictEntry}{ep:Nat}(hd:a6w od kvs es ep) :
   Turn P w K tg (Itk a od kvs) [J] J (fun i h=>h.IsKeyIter J a i es.size ep) where
 mem:=by simp
 obj:=fun i h st b hb=>by
   have e:b=J:=by simpa using hb
   subst e
   obtain⟨o,h1,h2,h3⟩:=st
   exact⟨o,h1,fun v z=>by rw[h3] at z;cases z⟩
 keep:=fun i h h' st k=>by
   obtain⟨o,h1,h2⟩:=st
   exact⟨o,k J (by simp) o h1,h2⟩
 item:=by
   intro X hP hw hK hc i pins s σ H E I hf st hg
   subst hP hw hK
   obtain⟨f0,f1,f2,f3,f4,f5⟩:=hf J (by simp)
   obtain⟨g1,g2⟩:=I.hok a _ hg.1
   have hsz:es.size=kvs.length:=by
     have:=hd.2.2.length
     rw[Ba] at this;exact this.symm
   refine xb st g1 hd.2.1 (I.ok.hd hc) (fun hn h' st' sb=>?_) (fun hn=>absurd hg.2 (by omega))
   have I1:Inv X pins σ H { s with heap:=h',toks:=s.toks }:=I.turned (fun b o hb e=>(sb.2 b hb).trans e) f0 f1 f3 f4 f5
   have hk:RelV (kV (kvs[i]'hg.2).1) es[i].key:=Paired.nthK (F:=fun (p:Key×V) (e:DictEntry)=>RelV (kV p.1) e.key) hd.2.2 (i:=i) (a:=kvs[i]'hg.2) (b:=es[i]) (Af hg.2) (by rw[BK];exact Fv hn)
   refine⟨_,rfl,letGo_keyiter st' ⟨kV (kvs[i]'hg.2).1,H,I1,hk,⟨rfl,by rw[Ai,Af hg.2];rfl⟩,st',fun b hb=>(hf b hb).1⟩⟩
 done:=by
   intro X hP hw hK hc i pins s σ H E I hf st hg
   subst hP hw hK
   obtain⟨f0,f1,f2,f3,f4,f5⟩:=hf J (by simp)
   obtain⟨g1,g2⟩:=I.hok a _ hg.1
   have hsz:es.size=kvs.length:=by
     have:=hd.2.2.length
     rw[Ba] at this;exact this.symm
   exact xb st g1 hd.2.1 (I.ok.hd hc) (fun hn=>absurd hg.2 (by omega)) (fun _ h' eb=>⟨rfl,I.turned (t':=s.toks) (fun b o hb e=>eb b o hb e) f0 f1 f3 f4 f5⟩)
 self:=fun _ _ _ _ _ st h=>wpAny_pyIter_keyiter st h
noncomputable def a3y (X:Cx) (tl:TE):TI:=fun σ H R=>tl σ H fun x H1=>∃a kvs,x=.ref a/\H1 a=some (.dK kvs)/\∀od,NF X a->R (Itk a od kvs) (upd H1 a (.frz od (.dK kvs)))
theorem a5g {X:Cx}{tg l:Expr}{tl:TE}(hl:PE X l tl):PI X tg l (a3y X tl):=by
 intro pins s σ H R I h
 refine thn (hl pins s σ H _ I h) fun v s1 ⟨x,H1,I1,r1,a,kvs,ex,e,q⟩=>?_
 subst ex
 cases r1
 obtain⟨z,hd,vs,rel,od,es,ep,h1,hc,h2,h3,h4,h5⟩:=(show ObjOk X.prog X.w H1 s1.heap a (.dK kvs) from I1.hok a _ e)
 have I2:Inv X pins σ (upd H1 a (.frz od (.dK kvs))) s1:=I1.write (x:=a) (e:=a) (h':=s1.heap) (t':=s1.toks) (by rw[e];exact True.intro) (.inl rfl) (fun _ _ _ z=>z) ⟨od,h1⟩ ⟨h1,z,hd,vs,rel,od,es,ep,h1,hc,h2,h3,h4,h5⟩
 have ent:a6w od kvs es ep:=⟨hc,h2,a2o (od:=od) (es:=es) (ep:=ep) rel h4⟩
 refine a5e hd h1 hc h2 ?_
 refine⟨s1.heap.objs.size,[s1.heap.objs.size],_,_,upd H1 a (.frz od (.dK kvs)),rfl,I2.kept (t':=s1.toks) fun b o e=>Ac _ e,a9b ent,⟨_,Ak _ rfl,rfl,rfl⟩,fun b hb=>?_,q od (I1.nf e fun _ _ z=>nomatch z)⟩
 have e:b=s1.heap.objs.size:=by simpa using hb
 subst e
 exact I2.fpOk (Aj _) (I2.hok.fresh (Aj _))
theorem wv {X:Cx}{tg l:Expr}{tl:TE}(hl:QE X l tl):QI X tg l (a3y X tl):=⟨a5g hl.run⟩
noncomputable def a2w (X:Cx) (t:TS):TS:=fun D σ H=>t { D with nx:=fun σ' H'=>∃a o u,H' a=some (.frz o u)/\NF X a/\D.nx σ' (upd H' a u) } σ H
theorem a83 {X:Cx}{st:Stmt}{t:TS}(h:QS X st t):QS X st (a2w X t):=⟨fun pins s σ H D I q=>thn (h.run pins s σ H _ I q) fun f s1 p=>by
 cases f with
 | next=>obtain⟨σ',H',I',a,o,u,e,nf,q'⟩:=p;exact⟨σ',_,I'.thaw e nf,q'⟩
 | brk=>exact p
 | cont=>exact p
 | ret u=>exact p⟩
theorem a4q {a:Addr}{od:Obj}{kvs:List (Key×V)}{g:TG}{tb:TS}{D:Ends}{σ:St}{H:Hp}(Pv:Nat->St->Hp->Prop) (h0:Pv 0 σ H) (hl:∀i σ H,i<=kvs.length->Pv i σ H->H a=some (.frz od (.dK kvs)))
   (hs:∀i x σ H,(kvs.map fun kv=>kV kv.1)[i]? = some x->Pv i σ H->g x σ H fun σ2 H2=>tb { D with nx:=Pv (i+1),ct:=Pv (i+1),bk:=D.nx } σ2 H2) (hd:∀σ H,Pv kvs.length σ H->D.nx σ H) :
   ∃W:Nat->Nat->St->Hp->Prop,(∃m,W 0 m σ H)/\∀i m σ H,W i m σ H->
     ((Itk a od kvs).stop i H/\D.nx σ H)\/((Itk a od kvs).go i H/\∃N:St->Hp->Prop,(∀σ' H',N σ' H'->∃m',m'<m/\W (i+1) m' σ' H')/\∀x H',(Itk a od kvs).yld i H x H'->g x σ H' fun σ2 H2=>tb { D with nx:=N,ct:=N,bk:=D.nx } σ2 H2):=by
 refine⟨fun i m σ H=>m=kvs.length - i/\i<=kvs.length/\Pv i σ H,⟨kvs.length,by simp,A8 _,h0⟩,?_⟩
 rintro i m σ H ⟨rfl,hi,p⟩
 have q:=hl i σ H hi p
 by_cases hlt:i<kvs.length
 . refine .inr ⟨⟨q,hlt⟩,Pv (i+1),fun σ' H' p'=>⟨kvs.length - (i+1),by omega,rfl,hlt,p'⟩,fun x H' y=>?_⟩
   obtain⟨e,y⟩:=y
   subst e
   exact hs i x σ _ y p
 . have e:i=kvs.length:=by omega
   subst e
   exact .inl ⟨⟨q,Aj _⟩,hd σ H p⟩
open PySem.Builtin
section
variable {prog:Program}{w:World}{d:Addr}{es:Array DictEntry}{ep:Nat}{od:Obj}
end
section
variable {X:Cx}
end
section
variable {prog:Program}{w:World}{A:Around}{E:Value->Shared->Prop}{s:Shared}{d:Addr}{es:Array DictEntry}{ep:Nat}{od:Obj}
end
noncomputable def zb (K:Ab) (J:It) (H1:Hp) (σ:St) (ix:List Nat) (tc:TT) (te:TE) (Q:VK):Prop:=∀D,H1 D=none->
 ∃W:Nat->Nat->Hp->Prop,(∃m,W 0 m (upd H1 D (.lst [])))/\∀i m H,W i m H->
   (J.stop i H/\Q (.ref D) H)\/(J.go i H/\∀x H',J.yld i H x H'->∃p a b,x=.ref p/\SqT K H' p [a,b]/\tc (some a::some b::bq σ ix) H' fun c H2 =>
     if c=true then te (some a::some b::bq σ ix) H2 fun y H3=>∃ys,H3 D=some (.lst ys)/\ys.length<sizeLine/\∃m',m'<m/\W (i+1) m' (upd H3 D (.lst (ys++[y])))
     else ∃m',m'<m/\W (i+1) m' H2)
noncomputable def a4e (K:Ab) (ix:List Nat) (wi:TI) (tc:TT) (te:TE):TE:=fun σ H Q=>wi σ H fun J H1=>zb K J H1 σ ix tc te Q
noncomputable def Ite (l:Addr):It where
 go:=fun i H=>∃xs x,H l=some (.lst xs)/\xs[i]? = some x
 yld:=fun i H v H'=>∃xs x p,H l=some (.lst xs)/\xs[i]? = some x/\H p=none/\H'=upd H p (.tup [.int (i:Int),x])/\v=.ref p
 stop:=fun i H=>∃xs,H l=some (.lst xs)/\xs.length<=i
noncomputable def a45 (n l:Addr) (i:Nat) (h:Heap):Prop:=(∃old,IsEnum h (n+1) n (i:Int) old)/\h.IsListIter n l i
theorem a2r {P:Program}{w:World}{K:Ab}{elts:List Expr}{x1} {pos:Pos}(n l:Addr):Turn P w K (.Tuple elts x1 pos) (Ite l) [n+1,n] (n+1) (a45 n l) where
 mem:=by simp
 obj:=fun i h st b hb=>by
   obtain⟨⟨old,he⟩,⟨o1,e1,c1,d1⟩⟩:=st
   simp only[Aq,AE,or_false] at hb
   rcases hb with rfl|rfl
   . exact⟨_,he,fun v z=>by cases z⟩
   . exact⟨o1,e1,fun v z=>by rw[d1] at z;cases z⟩
 keep:=fun i h h' st k=>by
   obtain⟨⟨old,he⟩,h1⟩:=st
   exact⟨⟨old,k _ (by simp) _ he⟩,h1.at fun o e=>k _ (by simp) o e⟩
 item:=by
   intro X hP hw hK hc i pins s σ H E I hf st hg
   subst hP hw hK
   obtain⟨⟨old,he⟩,hit⟩:=st
   obtain⟨xs,x,q1,hx⟩:=hg
   obtain⟨_,its1,n1,r1,_,e1⟩:=I.lstM q1
   have L1:s.heap.IsList l its1.toArray:=⟨_,e1,rfl,_,rfl⟩
   obtain⟨u,hu,ru⟩:=r1.get hx
   have hne:n+1≠n:=Nat.succ_ne_self n
   refine wpAny_pyNext_enum_item he hit L1 (x:=u) (by simpa using hu) hne fun h' a1 a2 a3 a4 hk=>?_
   have I1:Inv X pins σ H { s with heap:=h',toks:=s.toks+1 }:=I.turnedL (ch:=[n+1,n]) (t':=s.toks+1) (fun b o hb e=>by
     simp only[Aq,AE,or_false,not_or] at hb
     exact hk b o hb.1 hb.2 e) hf
   refine⟨.ref s.heap.objs.size,rfl,wpAny_letOwnedTupleGo_enum a1 fun h2' he' hs'=>?_⟩
   have I2:Inv X pins σ H { s with heap:=h2',toks:=s.toks+1 }:=I1.turnedL (s:={ s with heap:=h',toks:=s.toks+1 }) (ch:=[n+1,n]) (t':=s.toks+1) (fun b o hb e=>by
     simp only[Aq,AE,or_false,not_or] at hb
     exact hs'.extBut _ _ hb.1 e) hf
   have fresh:H s.heap.objs.size=none:=I.hok.fresh (Aj _)
   have pz:s.heap.objs.size≠n+1:=BD (Ap he)
   have I3:Inv X pins σ (upd H s.heap.objs.size (.tup [.int (i:Int),x])) { s with heap:=h2',toks:=s.toks+1 }:=by
     refine I2.track fresh ?_ (BD I.lt) (fun z c' e e2'=>?_) (fun p hp e2'=>?_) ?_
     . cases q:X.s₀.heap.get? s.heap.objs.size with
       | none=>rfl
       | some o=>exact absurd (AB (Ap q) I.sz) (AZ _)
     . obtain⟨v',q⟩:=I.cell z c' e
       exact absurd (e2' ▸ q.lt) (AZ _)
     . exact absurd (e2' ▸ Ap (I.pin p hp).1) (AZ _)
     . exact⟨by show 2<=sizeLine;decide,[.int (i:Int) s.toks,u],.cons ⟨_,rfl⟩ (.cons ru .nil),⟨_,hs'.extBut _ _ pz a3,rfl,_,rfl⟩⟩
   have hpn:∀b∈[n+1,n],b≠s.heap.objs.size:=fun b hb e=>by
     have q3:∃o,s.heap.get? b=some o:=by
       simp only[Aq,AE,or_false] at hb
       obtain⟨o1,g1,_⟩:=hit
       rcases hb with rfl|rfl
       . exact⟨_,he⟩
       . exact⟨_,g1⟩
     obtain⟨o,q3⟩:=q3
     exact absurd (e ▸ Ap q3) (AZ _)
   refine⟨.ref s.heap.objs.size,_,I3,rfl,⟨xs,x,_,q1,hx,fresh,rfl,rfl⟩,⟨⟨_,he'⟩,a2.extBut hs'.extBut (Aw (Ce n))⟩,fun b hb=>?_⟩
   rw[ae (hpn b hb)];exact (hf b hb).1
 done:=by
   intro X hP hw hK hc i pins s σ H E I hf st hg
   subst hP hw hK
   obtain⟨⟨old,he⟩,hit⟩:=st
   obtain⟨xs,q1,hl⟩:=hg
   obtain⟨_,its1,n1,r1,l1',e1⟩:=I.lstM q1
   have L1:s.heap.IsList l its1.toArray:=⟨_,e1,rfl,_,rfl⟩
   have hlen:=r1.length
   refine wpAny_pyNext_enum_end (I.ok.hd hc) he hit L1 (by rw[BM,Bt (by omega)]) fun h' hk=>⟨rfl,I.turnedL (ch:=[n+1,n]) (t':=s.toks) (fun b o hb e=>?_) hf⟩
   simp only[Aq,AE,or_false,not_or] at hb
   exact hk b o hb.2 e
 self:=fun _ _ _ _ _ st h=>by
   obtain⟨⟨old,he⟩,_⟩:=st
   exact Ih he h
section
variable {X:Cx}
noncomputable def a72 (ta:TA):TI:=fun σ H R=>ta σ H fun vs H1=>∃l xs,vs=[.ref l]/\H1 l=some (.lst xs)/\R (Ite l) H1
theorem a8w {a:Expr}{ta:TA}{p pos tpos:Pos}{elts:List Expr}{x1} (hg:Gl X "enumerate") (hm:X.mg "enumerate" = none) (ha:PA X [a] ta) (hs:starEach [a] X.env=[(false,eval a X.env)]) :
   PI X (.Tuple elts x1 tpos) (.Call (.Name "enumerate" p) [a] [] pos) (a72 ta):=by
 intro pins s σ H R I h
 refine Call_ (fj I hg hm boot_enumerate (Bs (thn (ha pos pins s σ H _ I h) fun us s1 ⟨vs,H1,I1,r1,q1⟩=>?_) (by rw[hs];rfl) rfl))
 obtain⟨l,xs,e,q1,q⟩:=q1
 subst e
 cases r1 with
 | cons r rr =>
   cases rr
   cases r
   obtain⟨_,its1,n1,v1,_,e1⟩:=I1.lstM q1
   refine call_enumerate_list (items:=its1.toArray) ⟨_,e1,rfl,_,rfl⟩ fun h' g1 g2 g3 hk=>?_
   have I2:Inv X pins σ H1 { s1 with heap:=h' }:=I1.kept (t':=s1.toks) fun b o e=>hk b o e
   refine Ih (s:={ s1 with heap:=h' }) g1 ?_
   refine⟨s1.heap.objs.size+1,[s1.heap.objs.size+1,s1.heap.objs.size],a45 s1.heap.objs.size l,Ite l,H1,rfl,I2,a2r _ _,⟨⟨_,g1⟩,g2⟩,fun b hb=>?_,q⟩
   have hge:s1.heap.objs.size<=b:=by
     simp only[Aq,AE,or_false] at hb
     rcases hb with rfl|rfl
     . exact Bu _ 1
     . exact Aj _
   exact I1.fpOk (H':=H1) hge (I1.hok.fresh hge)
theorem a8p {a:Expr}{ta:TA}{p pos tpos:Pos}{elts:List Expr}{x1} (hg:Gl X "enumerate") (hm:X.mg "enumerate" = none) (ha:QA X [a] ta) (hs:starEach [a] X.env=[(false,eval a X.env)]:=by rfl) :
   QI X (.Tuple elts x1 tpos) (.Call (.Name "enumerate" p) [a] [] pos) (a72 ta):=⟨a8w hg hm ha.run hs⟩
end
section
variable {X:Cx}
theorem a6m {pins:List (Addr×Obj)}{σ:St}{H:Hp}{s:Shared}{N:List Str}{x x2:Str}{sc:Scope}{cl:List (Str×Addr)}{fp:List Addr}{ix:List Nat}{h1:Heap}{m:Str->Option Value}{tk:Nat}
   (I:Inv X pins σ H s) (hkind:sc.kind=.function) (hN:N=x::x2::ix.map fun j=>(X.N[j]?).getD "")
   (hsub:∀y c,cl.lookup y=some c->X.env.cells.lookup y=some c) (hhas:∀y,((relabel sc X.env).names.lookup y=some .cell\/(relabel sc X.env).names.lookup y=some .free)->∃c,cl.lookup y=some c)
   (hix:∀j∈ix,∃y,X.N[j]? = some y/\X.env.kindOf y=some .cell/\(relabel sc X.env).names.lookup y=some .cell)
   (hfp:∀b∈fp,FpOk X pins H b) (hlt:∀b∈fp,b<s.heap.objs.size)
   (hns:h1.Ns s.heap.objs.size m) (hk:∀b o,s.heap.get? b=some o->h1.get? b=some o) :
   Inv (blk X N s H sc cl s.heap.objs.size fp) [] (none::none::bq σ ix) H { s with heap:=h1,toks:=tk }:=by
 have fresh:H s.heap.objs.size=none:=I.hok.fresh (Aj _)
 refine⟨⟨I.ok.mod,hkind,I.ok.glob,I.ok.blt,Aj _,fun y z c h1 h2=>I.ok.inj y z c (hsub y c h1) (hsub z c h2),fun y hy=>hhas y hy,fun y c z _=>absurd (show false=true from z) (by decide),I.ok.hd,I.ok.frames,.inl rfl,
   fun b hb=>⟨Aw (hlt b hb),fun y c e=>(hfp b hb).2.2.2.2.1 y c (hsub y c e)⟩,I.bs,A0 I.ok.bsz I.sz,fun b o e hb=>?_,fun b hb z=>?_,I.stack,I.stkFree⟩,
   rfl,I.bare,Un.kept hk,⟨m,hns,fun i y v e1 e2 e3=>?_⟩,fun y c e=>?_,fresh,fun y c e=>I.freeC y c (hsub y c e),fun p hp=>absurd (show p∈([]:List (Addr×Obj)) from hp) (by simp),I.hok.kept hk,?_⟩
 . rcases (hfp b hb).2.2.2.1 with z|z
   . exact I.ok.noex b o e z
   . exact absurd (AB (Ap e) (A0 I.ok.bsz z)) (AZ _)
 . rcases Aq.mp (I.stkSub b z) with q|q
   . exact (hfp b hb).2.1 q
   . exact (hfp b hb).2.2.1 q
 . cases i with
   | zero =>
     have e2':(some none:Option (Option V))=some (some v):=e2
     cases e2'
   | succ i =>
     cases i with
     | zero =>
       have e2':(some none:Option (Option V))=some (some v):=e2
       cases e2'
     | succ i =>
       have e2':(bq σ ix)[i]? = some (some v):=by simpa using e2
       unfold bq at e2'
       rw[Ai] at e2'
       cases q:ix[i]? with
       | none=>rw[q] at e2';cases e2'
       | some j =>
         rw[q] at e2'
         have e3':(σ[j]?).getD none=some v:=by simpa using e2'
         have e4:σ[j]? = some (some v):=by
           cases q2:σ[j]? with
           | none=>rw[q2] at e3';cases e3'
           | some w=>rw[q2] at e3';simpa using e3'
         obtain⟨y',hy,hc,hr⟩:=hix j (Ar q)
         have ey:y'=y:=by
           have e1':N[i+1+1]? = some y:=e1
           rw[hN,Ef,Ef,Ai,q] at e1'
           have:=Ay e1'
           simpa [hy] using this
         subst ey
         obtain⟨m0,hn0,hl0⟩:=I.loc
         obtain⟨u,r,l⟩:=hl0 j y' v hy e4 (.inr (.inl hc))
         refine⟨u,r,.inr ⟨.inl hr,?_⟩⟩
         rcases l with⟨k,_⟩|⟨_,c,ec,ic⟩
         . rw[hc] at k;cases k
         . obtain⟨c',ec'⟩:=hhas y' (.inl hr)
           have:=hsub y' c' ec'
           rw[ec] at this;cases this
           obtain⟨o,ho,hd⟩:=ic
           exact⟨c,ec',o,hk c o ho,hd⟩
 . obtain⟨v,o,ho,hd⟩:=I.cell y c (hsub y c e)
   exact⟨v,o,hk c o ho,hd⟩
 . show (none::none::bq σ ix).length=N.length
   rw[hN]
   simp[bq]
theorem a4u {elt iter:Expr}{x x2:Str}{px px2 ptt pos:Pos}{kt:Nat}{ifs:List Expr}{sc:Scope}{cl:List (Str×Addr)}{ix:List Nat}{wi:TI}{tc:TT}{te:TE}(N:List Str)
   (hc:X.calm=true) (hi:PI X (.Tuple [.Name x px,.Name x2 px2] kt ptt) iter wi) (hif:∀s H C ex,PTs (blk X N s H sc cl C ex) ifs tc) (he:∀s H C ex,PE (blk X N s H sc cl C ex) elt te)
   (hkind:sc.kind=.function) (hN:N=x::x2::ix.map fun j=>(X.N[j]?).getD "") (hnd:N.Nodup) (hx:sc.names.lookup x=some .local) (hx2:sc.names.lookup x2=some .local)
   (hcl:closureFor sc X.env=pure cl) (hcell:∀y∈sc.names,y.2≠.cell) (hnames:∀y∈sc.names,y.2=.local->sc.names.lookup y.1=some .local)
   (hsub:∀y c,cl.lookup y=some c->X.env.cells.lookup y=some c) (hhas:∀y,((relabel sc X.env).names.lookup y=some .cell\/(relabel sc X.env).names.lookup y=some .free)->∃c,cl.lookup y=some c)
   (hix:∀j∈ix,∃y,X.N[j]? = some y/\X.env.kindOf y=some .cell/\(relabel sc X.env).names.lookup y=some .cell)
   (hs:∀x,foldedSetIterable iter X.env x=pure x:=by intro _;rfl) :
   PE X (.ListComp elt [⟨.Tuple [.Name x px,.Name x2 px2] kt ptt,iter,ifs,0⟩] sc pos) (a4e X.K ix wi tc te):=by
 intro pins s σ H Q I h
 rw[eval_ListComp]
 refine Fz (use:=none) rfl hs hcl hkind hnames (thn (hi pins s σ H _ I h) fun v s1 h1=>thn h1 fun itv s2 h2=>?_)
 obtain⟨it,fp,tn,J,H2,e,I2,T,st2,f2,q2⟩:=h2
 subst e
 have fr2:H2 s2.heap.objs.size=none:=I2.hok.fresh (Aj _)
 obtain⟨W,⟨m0,w0⟩,turn⟩:=q2 s2.heap.objs.size fr2
 refine AV ?_
 have I3:Inv X pins σ (upd H2 s2.heap.objs.size (.lst [])) { s2 with heap:=s2.heap.push { cls:=.type "list",dict:=none,data:=.seq ([]:List Value).toArray } }:=by
   exact I2.lnew (its:=[]) (ys:=[]) (t':=s2.toks) .nil (A8 _)
 have lt2:∀b∈fp,b<s2.heap.objs.size:=fun b hb=>by
   obtain⟨o,ho,_⟩:=T.obj _ _ st2 b hb
   exact Ap ho
 have f3:∀b∈fp,FpOk X pins (upd H2 s2.heap.objs.size (.lst [])) b:=fun b hb=>⟨by rw[ae (Aw (lt2 b hb))];exact (f2 b hb).1,(f2 b hb).2⟩
 generalize hs3:({ s2 with heap:=s2.heap.push { cls:=.type "list",dict:=none,data:=.seq ([]:List Value).toArray } }:Shared)=s3 at I3
 have hsz3:s2.heap.objs.size<=s3.heap.objs.size:=by rw[<- hs3];show _<=(s2.heap.push _).objs.size;rw[Bh];exact Du _
 have tn3:tn 0 s3.heap:=T.keep _ _ _ st2 fun b _ o e=>by rw[<- hs3];exact Ac _ e
 have lt3:∀b∈fp,b<s3.heap.objs.size:=fun b hb=>AB (lt2 b hb) hsz3
 refine Hj hcell (by intro y hy;simp at hy) (fun h4 hns4 hsb4=>?_) hkind
 have old:∀b o,s3.heap.get? b=some o->h4.get? b=some o:=fun b o e=>hsb4.extBut b o (Aw (Ap e)) (Ac _ e)
 have I4:=a6m (m:=_) (tk:=s3.toks+([]:List (Str×Value)).length) (N:=N) I3 hkind hN hsub hhas hix f3 lt3 hns4 old
 have tn4:tn 0 h4:=T.keep _ _ _ tn3 fun b _ o e=>old b o e
 have fpB:∀{H':Hp},(∀b∈fp,H' b=none)->∀b∈fp,FpOk (blk X N s3 (upd H2 s2.heap.objs.size (.lst [])) sc cl s3.heap.objs.size fp) [] H' b:=fun {H'} hn b hb =>
   ⟨hn b hb,Aw (lt3 b hb),I4.ok.exfs b hb,.inl hb,fun y c e=>(I4.ok.exf b hb).2 y c e,fun p hp=>absurd (show p∈([]:List (Addr×Obj)) from hp) (by simp)⟩
 have loop:codeAny (model X.prog X.w) X.A (.compLoop (.ListComp elt [⟨.Tuple [.Name x px,.Name x2 px2] kt ptt,iter,ifs,0⟩] sc pos) 0 (.ref it) (.ref s2.heap.objs.size) (compEnvC sc cl s3.heap.objs.size X.env))
     (compPost (model X.prog X.w) X.A X.xe none (EP X pins σ Q) (.ref s2.heap.objs.size) s3.heap.objs.size) { s3 with heap:=h4,toks:=s3.toks+([]:List (Str×Value)).length }:=by
   refine oo (fun n s'=>∃i v0 v1 H',Inv (blk X N s3 (upd H2 s2.heap.objs.size (.lst [])) sc cl s3.heap.objs.size fp) [] (v0::v1::bq σ ix) H' s'/\tn i s'.heap/\(∀b∈fp,H' b=none)/\W i n H') ?_ m0
     ⟨0,none,none,_,I4,tn4,fun b hb=>(f3 b hb).1,w0⟩
   rintro n s5 ⟨i,v0,v1,H5,I5,st5,fr5,w5⟩
   rcases turn i n H5 w5 with⟨stop,qn⟩|⟨go,step⟩
   . refine thn (T.done (blk X N s3 (upd H2 s2.heap.objs.size (.lst [])) sc cl s3.heap.objs.size fp) rfl rfl rfl hc i [] s5 _ H5 _ I5 (fpB fr5) st5 stop) fun r s6 ⟨hr,I6⟩=>?_
     subst hr
     obtain⟨mm,hm,_⟩:=I6.loc
     refine⟨mm,hm,fun h7 sb7=>?_⟩
     have I7:Inv X pins σ H5 { s6 with heap:=h7 }:=by
       have hC:H5 s3.heap.objs.size=none:=I6.free
       have hc3:s3.heap.get? s3.heap.objs.size=none:=Ez (Aj _)
       have up:∀b o,b≠s3.heap.objs.size->s6.heap.get? b=some o->h7.get? b=some o:=fun b o hb e=>sb7.extBut b o hb e
       have neC:∀b o,s3.heap.get? b=some o->b≠s3.heap.objs.size:=fun b o e=>Aw (Ap e)
       have u:=I6.base
       refine I3.call' (s':={ s6 with heap:=h7 }) (ch:=fp) I6.os ⟨fun b o e n hb hx=>?_,fun b o e n hb hx=>?_,fun b o e n hx=>u.free b o e n hx,fun b o e hx=>?_,u.tups,u.frzs,u.tbls⟩ (fun b o e=>?_) I6.bare fun b hb=>⟨(f3 b hb).2.2.2.1,(f3 b hb).2.1,(f3 b hb).2.2.2.2.1,(f3 b hb).2.2.2.2.2⟩
       . exact up b o (neC b o e) (u.keep b o e n hb hx)
       . obtain⟨sl,e1⟩:=u.slot b o e n hb hx
         exact⟨sl,up b _ (neC b o e) e1⟩
       . obtain⟨o',e1⟩:=u.there b o e hx
         exact⟨o',up b _ (neC b o e) e1⟩
       . refine (I6.hok b o e).stay (fun c v hc' q=>up c v ?_ q) (fun _ q=>q) fun _ _ q=>q
         rintro rfl
         rcases hc' with z|z
         . rw[<- z,hC] at e;cases e
         . rw[hC] at z;cases z
     exact⟨.ref s2.heap.objs.size,H5,I7,rfl,qn⟩
   . refine thn (T.item (blk X N s3 (upd H2 s2.heap.objs.size (.lst [])) sc cl s3.heap.objs.size fp) rfl rfl rfl hc i [] s5 _ H5 _ I5 (fpB fr5) st5 go) fun r s6 ⟨u,hr,h6⟩=>?_
     subst hr
     refine thn h6 fun _ s7 ⟨y,H7,I7,r7,y7,st7,fr7⟩=>?_
     have I7':=I7.pinned (fpB fr7) (T.obj _ _ st7)
     obtain⟨pp,ya,yb,rfl,hpp,step7⟩:=step y H7 y7
     have hPG:PG (blk X N s3 (upd H2 s2.heap.objs.size (.lst [])) sc cl s3.heap.objs.size fp) (.Tuple [.Name x px,.Name x2 px2] kt ptt) (gTup X.K 2 (ga (b7 0) (ga (b7 1) gNil))) :=
       wf hc (di (nh (i:=0) hnd (by show N[0]? = some x;rw[hN];rfl) (.inl (Cu hx)) (.inr (Cu hx))) (di (nh (i:=1) hnd (by show N[1]? = some x2;rw[hN];rfl) (.inl (Cu hx2)) (.inr (Cu hx2))) ni))
     refine thn (hPG _ s7 _ H7 (.ref pp) _ (fun σ' H'=>σ'=some ya::some yb::bq σ ix/\H'=H7) I7' r7 ⟨pp,_,rfl,hpp,rfl,_,_,rfl,_,_,rfl,rfl,rfl,rfl⟩) fun _ s8 ⟨σ8,H8,I8,eσ,eH⟩=>?_
     subst eσ eH
     refine thn (hif _ _ _ _ _ s8 _ H8 _ I8 step7) fun ok s9 ⟨H9,I9,q9⟩=>?_
     have again:∀{H':Hp} {s':Shared} {m':Nat},Inv (blk X N s3 (upd H2 s2.heap.objs.size (.lst [])) sc cl s3.heap.objs.size fp) ([]++j0 fp s7.heap) (some ya::some yb::bq σ ix) H' s'->m'<n->W (i+1) m' H'->
         ∃m,m<n/\∃i v0 v1 H',Inv (blk X N s3 (upd H2 s2.heap.objs.size (.lst [])) sc cl s3.heap.objs.size fp) [] (v0::v1::bq σ ix) H' s'/\tn i s'.heap/\(∀b∈fp,H' b=none)/\W i m H':=fun {H' s' m'} Ia hm wa=>by
       refine⟨m',hm,i+1,some ya,some yb,H',Ia.unpinned,T.keep _ _ _ st7 fun b hb o e=>(Ia.pin (b,o) (AO _ (AO _ (fq hb e)))).1,fun b hb=>?_,wa⟩
       obtain⟨o,e,d⟩:=T.obj _ _ st7 b hb
       exact (Ia.pin (b,o) (AO _ (AO _ (fq hb e)))).2.1
     cases ok with
     | false =>
       rw[if_neg Am] at q9 |-
       obtain⟨m',hm,wa⟩:=q9
       exact again I9 hm wa
     | true =>
       rw[if_pos rfl] at q9 |-
       refine thn (he _ _ _ _ _ s9 _ H9 _ I9 q9) fun v10 s10 ⟨z,H10,I10,r10,ys,hD,hl,m',hm,wa⟩=>?_
       exact thn (d0 _ s10 _ H10 (.ref s2.heap.objs.size) [z] (.ref s2.heap.objs.size) [v10] (fun _ H'=>H'=upd H10 s2.heap.objs.size (.lst (ys++[z]))) I10 rfl (.cons r10 .nil) ⟨_,ys,z,rfl,rfl,hD,hl,rfl⟩)
         fun _ s11 ⟨_,H11,I11,_,e11⟩=>again I11 hm (by rw[e11];exact wa)
 subst hs3
 exact Gd loop (T.self _ 0 _ _ _ tn4 loop)
theorem a1u {X:Cx}{elt iter:Expr}{x x2:Str}{px px2 ptt pos:Pos}{kt:Nat}{ifs:List Expr}{sc:Scope}{cl:List (Str×Addr)}{wi:TI}{tc:TT}{te:TE}{K:Ab}(hK:X.K=K) (N:List Str) (ix:List Nat) (hi:QI X (.Tuple [.Name x px,.Name x2 px2] kt ptt) iter wi)
   (hif:∀s H C ex,QTs (blk X N s H sc cl C ex) ifs tc) (he:∀s H C ex,QE (blk X N s H sc cl C ex) elt te)
   (hcl:closureFor sc X.env=pure cl:=by rfl) (hcs:ClIn X.env.cells cl:=by repeat' first|with_unfolding_all rfl|constructor) (hN:N=x::x2::ix.map (fun j=>(X.N[j]?).getD ""):=by rfl) (hnd:N.Nodup:=by decide +kernel)
   (hkm:cl.map (·.1)=N.tail.tail:=by rfl) (hkB:((relabel sc X.env).names.all fun y=>(match y.2 with|.cell=>false|.free=>false|_=>true) || decide (y.1∈N.tail.tail))=true:=by with_unfolding_all rfl)
   (hix:IxIn X sc ix:=by repeat' first|with_unfolding_all rfl|constructor)
   (hx:sc.names.lookup x=some .local:=by decide +kernel) (hx2:sc.names.lookup x2=some .local:=by decide +kernel) (hcell:∀z∈sc.names,z.2≠.cell:=by decide +kernel)
   (hnames:∀z∈sc.names,z.2=.local->sc.names.lookup z.1=some .local:=by decide +kernel)
   (hc:X.calm=true:=by rfl) (hkind:sc.kind=.function:=by rfl) (hs:∀x,foldedSetIterable iter X.env x=pure x:=by intro _;rfl) :
   QE X (.ListComp elt [⟨.Tuple [.Name x px,.Name x2 px2] kt ptt,iter,ifs,0⟩] sc pos) (a4e K ix wi tc te):=by
 subst hK
 exact⟨a4u N hc hi.run (fun s H C ex=>(hif s H C ex).run) (fun s H C ex=>(he s H C ex).run) hkind hN hnd hx hx2 hcl hcell hnames (vg hcs.all) (x8 hkm hkB) hix.all hs⟩
end
end L2
namespace Ka
open PySem PyProof.Rows
theorem sm:typeLookup (.type "list") "keys" = pure none:=by rw[CL,Cc];kernel_rfl
theorem a0k:typeLookup (.type "list") "__getattr__" = pure none:=by rw[CL,Cc];kernel_rfl
theorem jh:isSubtype (.type "AttributeError") (.type "AttributeError")=pure true:=by rw[Ec];kernel_rfl
section
variable {prog:Program}{w:World}{A:Around}{E:Value->Shared->Prop}{h:Heap}{g:Array GenState}{d:Drawn}{t:Nat}{os:OsState}{a:Addr}{o:Obj}
set_option maxHeartbeats 16000000 in
theorem a0n {tk:Tok}{Q:Fin->Shared->Prop}(hh:A.handled=none) {xs:Array Value}{n:Nat}{sl:Array (Option Value)}(hx:h.get? a=some { cls:=.type "list",dict:=none,data:=.seq xs n,slots:=sl })
   (hq:∀h' e t',(∀b u,h.get? b=some u->h'.get? b=some u)->(∃oe,h'.get? e=some oe/\oe.cls=.type "AttributeError")->h.objs.size<=h'.objs.size->E (.ref e) ⟨h',g,d,t',os⟩) :
   wpAny (model prog w) A (Builtin.«object.__getattribute__» ⟨[.ref a,.str "keys" tk],[]⟩) Q E ⟨h,g,d,t,os⟩:=by
 have hT:(⟨h,g,d,t,os⟩:Shared).TypeIs (.ref a) "list" := ⟨_,hx,rfl⟩
 have f4:=sm
 repeat (any_goals (first|assumption|wp_step))
 have hm:(Bq (toString "'" ++ toString ((ET "list").elim "list" fun x=>x.tpName)++toString "' object has no attribute '")++Bq "keys" ++ Bq "'").length<=sizeLine:=by decide +kernel
 generalize (Bq (toString "'" ++ toString ((ET "list").elim "list" fun x=>x.tpName)++toString "' object has no attribute '")++Bq "keys" ++ Bq "'")=msg at hm |-
 unfold raiseAttrError
 repeat (any_goals (first|assumption|wp_step))
 have f5:isSubtype (.type "AttributeError") (.type "AttributeError")=pure true:=jh
 dsimp only
 repeat (any_goals (first|assumption|wp_step))
 generalize hO:({ cls:=Value.type "AttributeError",data:=_ }:Obj)=oe
 generalize hT2:({ cls:=Value.type "tuple",data:=Data.seq #[Value.str msg t] }:Obj)=ot
 have hoc:oe.cls=.type "AttributeError" := by rw[<- hO]
 have hof:∃vs,oe.data=.fields vs:=⟨_,by rw[<- hO]⟩
 obtain⟨vs,hvs⟩:=hof
 have e1:((h.push ot).push oe).get? (h.push ot).objs.size=some oe:=Ak _ (by rw[<- hO];rfl)
 refine EF hh (hq _ _ _ (fun b u hb=>?_) ⟨_,Bp _ e1 (DD (CJ hvs _)),(Ek ..).trans hoc⟩ ?_)
 . have hlt:=Ap (Ac ot hb)
   rw[Hu _ _ _ _ (Aw hlt)]
   exact Ac _ (Ac _ hb)
 . rw[Iu,size_push',size_push'];omega
set_option maxHeartbeats 16000000 in
theorem attr {Q:Option Value->Shared->Prop}(hh:A.handled=none) {xs:Array Value}{n:Nat}{sl:Array (Option Value)}(hx:h.get? a=some { cls:=.type "list",dict:=none,data:=.seq xs n,slots:=sl })
   (hq:∀h' t',(∀b u,h.get? b=some u->h'.get? b=some u)->h.objs.size<=h'.objs.size->Q none ⟨h',g,d,t',os⟩):wpAny (model prog w) A (getAttr? (.ref a) "keys") Q E ⟨h,g,d,t,os⟩:=by
 have hT:(⟨h,g,d,t,os⟩:Shared).TypeIs (.ref a) "list" := ⟨_,hx,rfl⟩
 have hT1:(⟨h,g,d,t+1,os⟩:Shared).TypeIs (.ref a) "list" := ⟨_,hx,rfl⟩
 have f2:=F.slot_list_getattribute.lookup
 have f3:=F.slot_list_getattribute.bind (.ref a)
 have f5:isSubtype (.type "AttributeError") (.type "AttributeError")=pure true:=jh
 unfold getAttr? getAttrBy?
 repeat (any_goals (first|assumption|wp_step))
 refine DH F.slot_list_getattribute.plain F.entry_list_ga (F.slot_list_getattribute.check _ _ _ _ _ _ _ _ hT1 (F.args_list_getattribute_2 _ _) (a0n ?_ hx fun h' e t' k he hs=>?_))
 . exact hh
 obtain⟨oe,he1,he2⟩:=he
 have hTe:(⟨h',g,d,t',os⟩:Shared).TypeIs (.ref e) "AttributeError" := ⟨_,he1,he2⟩
 have f6:=a0k
 have hfin:=hq h' t' k hs
 show wpAny (model prog w) A (getattributeRaised (Value.ref a) (Value.str (Bq "keys") t) (Value.type "list") (.ref e) none false false) _ _ _
 repeat (any_goals (first|assumption|wp_step))
end
end Ka
namespace Ka
open PySem
theorem plain_loop:plainId "dict.update.loop" = true:=by decide +kernel
theorem entry_loop:entryFor table "dict.update.loop" = some Builtin.«dict.update.loop» := entryFor_of_fast (by kernel_rfl)
end Ka
namespace L2
open PySem PySem.Spec PyProof.Rows
noncomputable def kk (kv:Str×V):Key×V:=(Sum.inr kv.1,kv.2)
section
variable {X:Cx}{pins:List (Addr×Obj)}{σ:St}{H:Hp}{a p it:Addr}{ts:List Addr}{kvs:List (Str×V)}
noncomputable def Hd (H:Hp) (p:Addr) (kvs:List (Str×V)) (i:Nat):Hp:=upd H p (.dK ((kvs.take i).map kk))
theorem zh:∀{kvs:List (Str×V)}{x:Str},¬ x∈kvs.map (·.1)->valV (kvs.map kk) (Sum.inr x)=none
 | [],_,_=>rfl
 | kv::kvs,x,h=>by
   rw[AC,iu (fun e=>h (by rw[AC];exact Aq.mpr (.inl (Dt e).symm)))]
   exact zh fun z=>h (An _ z)
theorem a3s (hn:(kvs.map (·.1)).Nodup) {i:Nat}{kv:Str×V}(hi:kvs[i]? = some kv):putK ((kvs.take i).map kk) (Sum.inr kv.1) kv.2=(kvs.take (i+1)).map kk:=by
 rw[BY,hi,Az,a6b]
 . rfl
 . refine zh fun z=>?_
   obtain⟨hlt,rfl⟩:=Ao.mp hi
   rw[IX] at z
   obtain⟨j,hj⟩:=Hl z
   have hj':=(Ao.mp hj).1
   rw[AG,Ad] at hj'
   rw[CY (by omega)] at hj
   have e:(kvs.map (·.1))[i]? = some kvs[i].1:=by rw[Ai,hi];rfl
   have:=(Ii (by rw[Ad];omega) hn).mp (hj.trans e.symm)
   omega
theorem iz {K:Ab}{H H':Hp}{l:Addr}{xs:List V}(e:Same H H') (h:SqL K H l xs):SqL K H' l xs:=by
 rcases h with (h|⟨o,h⟩)|h
 . exact .inl (.inl (e _ _ h))
 . exact .inl (.inr ⟨o,e _ _ h⟩)
 . exact .inr h
theorem a6t {α β:Type}{F:α->β->Prop}:∀{l₁:List α}{l₂:List β}{i:Nat}{a:α}{b:β},Paired F l₁ l₂->l₁[i]? = some a->l₂[i]? = some b->F a b
 | _,_,0,_,_,.cons h r,e1,e2=>by cases e1;cases e2;exact h
 | _,_,i+1,_,_,.cons h r,e1,e2=>a6t (i:=i) r (by simpa using e1) (by simpa using e2)
theorem a3x {A:Around}{R:Result->Shared->Prop}(hh:A.handled=none) (hp:H p=none) (hl:SqL X.K H a (ts.map V.ref)) (hts:Paired (fun t (kv:Str×V)=>SqT X.K H t [.str kv.1,kv.2]) ts kvs) (hn:(kvs.map (·.1)).Nodup) (hz:ts.length<=1000) (hip:it≠p) :
   ∀(k i:Nat) (s:Shared),kvs.length - i=k->i<=kvs.length->Inv X pins σ (Hd H p kvs i) s->s.heap.IsListIter it a i->(∀b∈[it],FpOk X pins (Hd H p kvs i) b)->
     (∀s',Inv X pins σ (Hd H p kvs kvs.length) s'->R (.ok (.ret .none)) s')->codeAny (model X.prog X.w) A (.builtin "dict.update.loop" ⟨[.ref p,.ref it,.int i 0,.none],[]⟩) R s:=by
 have hSame:∀i,Same H (Hd H p kvs i):=fun i=>ag hp _
 have hlen:=Ax hts
 intro k
 induction k with
 | zero =>
   intro i s hk hi I hit hf q
   have e:i=kvs.length:=by omega
   obtain⟨its,rv,pl,_⟩:=I.list (iz (hSame i) hl)
   have hil:=rv.length
   rw[Ad] at hil
   refine By Ka.entry_loop ?_
   rw[Bn Ka.plain_loop _]
   show wpAny _ A.in1 (pyNext (.ref it) >>= _) _ _ s
   refine Aa (Eu hh hit pl.isList (by rw[BM,Bt (by omega)]) fun h' hk'=>?_)
   have I':Inv X pins σ (Hd H p kvs i) { s with heap:=h' }:=I.turnedL (ch:=[it]) (t':=s.toks) (fun b o hb e=>hk' b o (by simpa using hb) e) hf
   refine Aa (Ae (Ae (q _ ?_)))
   rw[<- e];exact I'
 | succ k ih =>
   intro i s hk hi I hit hf q
   have hlt:i<kvs.length:=by omega
   have hkv:kvs[i]? = some kvs[i]:=Af hlt
   have ht:ts[i]? = some (ts[i]'(by omega)):=Af _
   generalize ts[i]'(by omega)=t at ht
   generalize hg:kvs[i]=kv at hkv
   have hsq:=a6t hts ht hkv
   obtain⟨its,rv,pl,_⟩:=I.list (iz (hSame i) hl)
   have hx:its[i]? = some (.ref t):=by
     obtain⟨u,hu,ru⟩:=rv.get (x:=.ref t) (i:=i) (by rw[Ai,ht];rfl)
     cases ru;exact hu
   refine By Ka.entry_loop ?_
   rw[Bn Ka.plain_loop _]
   show wpAny _ A.in1 (pyNext (.ref it) >>= _) _ _ s
   refine Aa (El hit pl.isList (by rw[BM];exact hx) fun h' hit' hs'=>?_)
   have I':Inv X pins σ (Hd H p kvs i) { s with heap:=h' }:=I.turnedL (ch:=[it]) (t':=s.toks) (fun b o hb e=>(hs'.2 b (by simpa using hb)).trans e) hf
   obtain⟨jts,rj,tp,_⟩:=I'.tuple ((hSame i).seqT hsq)
   obtain⟨u1,u2,rfl,r1,r2⟩:∃u1 u2,jts=[u1,u2]/\RelV (.str kv.1) u1/\RelV kv.2 u2:=by
     cases rj with
     | cons a1 b1=>cases b1 with
       | cons a2 b2=>cases b2;exact⟨_,_,rfl,a1,a2⟩
   obtain⟨⟨c3,d3,dt3,sl3⟩,ho3,hc3,n3,hd3⟩:=id tp
   dsimp only at hc3 hd3
   subst hc3 hd3
   dsimp only
   refine Aa (AS ?_)
   refine Aa (CV ?_)
   unfold Gg
   refine Aa (CG (T := "tuple") ⟨_,ho3,rfl⟩ ?_)
   rw[if_pos (by decide)]
   refine Aa (Bb ho3 rfl (Ae ?_))
   refine AS ?_
   obtain⟨z,hd,vs,rel,dd⟩:=nr I'.hok (show (Hd H p kvs i) p=some (.dK ((kvs.take i).map kk)) from aa)
   have hvz:vs.length<=sizeLine:=by rw[<- rel.length];exact z
   refine Hv (s:={ s with heap:=h' }) (hsz:=hvz) (j9 (k:=Sum.inr kv.1) r1) dd fun h2 dd2 hs2=>?_
   have hmu:Mut ((Hd H p kvs i) p):=by rw[show (Hd H p kvs i) p=some (.dK ((kvs.take i).map kk)) from aa];exact True.intro
   have he:∃q,h2.get? p=some q:=let ⟨q,_,_,hq,_⟩:=dd2;⟨q,hq⟩
   have hpl:(putK ((kvs.take i).map kk) (Sum.inr kv.1) kv.2).length<=sizeLine:=by
     have:=i3 ((kvs.take i).map kk) (Sum.inr kv.1) kv.2
     rw[Ad,AG] at this
     exact Bw (dq (by omega))
   have I2:Inv X pins σ (Hd H p kvs (i+1)) { s with heap:=h2,toks:=s.toks+1 }:=by
     have:=jt (t':=s.toks+1) (ob:=.dK (putK ((kvs.take i).map kk) (Sum.inr kv.1) kv.2)) I' hmu hs2 he (lz hpl hd (rel.put (Sum.inr kv.1) r2) dd2)
     rw[a3s hn hkv] at this
     have e:upd (Hd H p kvs i) p (.dK ((kvs.take (i+1)).map kk))=Hd H p kvs (i+1):=by
       funext b;unfold Hd
       by_cases c:b=p
       . rw[c,aa,aa]
       . rw[ae c,ae c,ae c]
     rw[e] at this;exact this
   refine Ae ⟨BJ Ka.plain_loop _,ih (i+1) _ (by omega) hlt I2 ?_ (fun b hb=>?_) q⟩
   . obtain⟨o,g1,g2⟩:=hit'
     exact⟨o,(hs2.2 it hip).trans g1,g2⟩
   . have hb':b=it:=by simpa using hb
     subst hb'
     have f0:=hf b hb
     refine⟨?_,f0.2⟩
     have:=f0.1
     unfold Hd at this |-
     rw[ae hip] at this |-
     exact this
noncomputable def aan (K:Ab):List V->Hp->VK->Prop:=fun xs H Q=>∃(a:Addr) (ts:List Addr) (kvs:List (Str×V)),xs=[V.ref a]/\SqL K H a (ts.map V.ref)/\Paired (fun t (kv:Str×V)=>SqT K H t [.str kv.1,kv.2]) ts kvs/\(kvs.map (·.1)).Nodup/\ts.length<=1000/\∀p,H p=none->Q (.ref p) (upd H p (.dK (kvs.map kk)))
theorem qg {K:Ab}(hK:X.K=K) (hc:X.calm=true):c7 X (.type "dict") (aan K):=by
 subst hK
 intro pins s σ H xs us Q I r h
 obtain⟨a,ts,kvs,rfl,hl,hts,hn,hz,q⟩:=h
 obtain⟨u,rfl,ru⟩:=km r
 cases ru
 have hlen:=Ax hts
 refine callType_codes (Q₁:=fun obj s₁=>obj=.ref s.heap.objs.size/\s₁={ s with heap:=s.heap.push { cls:=.type "dict",data:=.dict #[] } }) Iv (Hm _) Ij (Iw _ ⟨rfl,rfl⟩) ?_
 rintro obj s₁ ⟨rfl,rfl⟩
 have fr:H s.heap.objs.size=none:=I.hok.fresh (Aj _)
 have I1:Inv X pins σ (upd H s.heap.objs.size (.dK [])) { s with heap:=s.heap.push { cls:=.type "dict",data:=.dict #[] } }:=I.laid (t':=s.toks) (fun b o e=>Ac _ e) (Aj _) (oq _ I.big)
 have hnew:(s.heap.push { cls:=.type "dict",data:=.dict #[] }).get? s.heap.objs.size=some { cls:=.type "dict",data:=.dict #[] }:=Ak _ rfl
 refine⟨⟨_,hnew,rfl⟩,HL _ _,?_⟩
 unfold Builtin.«dict.__init__»
 refine Aa ?_
 unfold FI
 refine Aa (Ex ⟨_,hnew,rfl⟩ ?_)
 show wpAny _ _ (pure (s.heap.objs.size,[Value.ref a])) _ _ _
 refine Ae ?_
 show wpAny _ _ (Dk "dict.__init__" s.heap.objs.size (.ref a) [] .none) _ _ _
 obtain⟨its,rv,⟨⟨oc,od,odt,osl⟩,n,e1,e2,e3,e4⟩,_⟩:=I1.list (iz (ag fr _) hl)
 dsimp only at e2 e3 e4
 subst e2 e3 e4
 unfold Dk
 refine Aa (CG (T := "list") ⟨_,e1,rfl⟩ ?_)
 rw[if_pos (by decide)]
 refine Aa (Ka.attr (A:=X.A.in1.in1) (show X.A.in1.in1.handled=none from I1.ok.hd hc) e1 fun h2 t2 k2 z2=>?_)
 rw[if_pos (show (none:Option Value).isNone=true from rfl)]
 refine Aa (Cn ?_)
 have e1':=k2 _ _ e1
 have I2:Inv X pins σ (upd H s.heap.objs.size (.dK [])) { s with heap:=h2,toks:=t2 }:=I1.kept (t':=t2) fun b o e=>k2 b o e
 refine Aa (Cw (s:={ s with heap:=h2,toks:=t2 }) (items:=its.toArray) ⟨_,e1',rfl,_,rfl⟩ ?_)
 have hge:s.heap.objs.size<h2.objs.size:=Ap (k2 _ _ hnew)
 have I3:Inv X pins σ (upd H s.heap.objs.size (.dK [])) { s with heap:=h2.push { cls:=.type "list_iterator",data:=.fields #[.ref a,.int 0 0] },toks:=t2 }:=I2.kept (t':=t2) fun b o e=>Ac _ e
 have hit:(h2.push { cls:=.type "list_iterator",data:=.fields #[.ref a,.int 0 0] }).IsListIter h2.objs.size a 0:=⟨_,Ak _ rfl,rfl,rfl⟩
 refine Ae ⟨BJ Ka.plain_loop _,a3x (kvs:=kvs) (show X.A.in1.handled=none from I1.ok.hd hc) fr hl hts hn hz (BD hge) kvs.length 0 _ rfl (A8 _) I3 hit (fun b hb=>?_) fun s' I'=>?_⟩
 . have hb':b=h2.objs.size:=by simpa using hb
   subst hb'
   exact I2.fpOk (Aj _) (by show (upd H s.heap.objs.size (.dK [])) h2.objs.size=none;rw[ae (BD hge)];exact I2.hok.fresh (Aj _) |> fun z=>by rw[ae (BD hge)] at z;exact z)
 . refine⟨rfl,.ref s.heap.objs.size,_,I',rfl,?_⟩
   have:=q s.heap.objs.size fr
   unfold Hd
   rw[Bv]
   exact this
end
end L2
namespace TS
open PySem PySem.W PyProof.Rows
section
variable {α β:Type}{N:Nat}{lt:Nat->Nat->Bool}{p:Array Nat}
structure Ord (N:Nat) (lt:Nat->Nat->Bool):Prop where
 tr:∀i j k,lt i j=true->lt j k=true->lt i k=true
 tot:∀i j,i<N->j<N->i≠j->lt i j=false->lt j i=true
end
section
open L2 HT
variable {prog:Program}{w:World}{A:Around}{E:Value->Shared->Prop}{s:Shared}
end
end TS
namespace L2
open PySem PySem.Spec PyProof.Rows TS
section
variable {X:Cx}
end
theorem r8 {J:It}{H1:Hp}{σ:St}{ix:List Nat}{tc:TT}{te:TE}{Q:VK}{I0:Hp->Prop}(ws:List Str) (p:Str->Bool) (hJ:JSeq J I0 (ws.map V.str)) (h0:I0 H1) (hz:ws.length<=1000)
   (hc:∀n∈ws,∀H2,Same H1 H2->∀Q':Bool->Hp->Prop,(∀H3,Same H2 H3->Q' (p n) H3)->tc (some (.str n)::bq σ ix) H2 Q')
   (he:∀(n:Str) H2 (Q':VK),Q' (.str n) H2->te (some (.str n)::bq σ ix) H2 Q')
   (hQ:∀D H',H1 D=none->Same H1 H'->H' D=some (.lst ((ws.filter p).map V.str))->Q (.ref D) H'):ji J H1 σ ix tc te Q:=by
 have pv:∀n:Str,(fun v:V=>match v with|.str i=>p i|_=>false) (V.str n)=p n:=fun n=>rfl
 refine pf (ws.map V.str) (fun v=>match v with|.str i=>p i|_=>false) id hJ h0 (by rw[Ad];exact A0 hz (by decide)) ?_ ?_ ?_
 . intro x hx H2 e2 Q' q'
   obtain⟨n,hn,rfl⟩:=A9.mp hx
   exact hc n hn H2 e2 Q' fun H3 e3=>q' H3 e3
 . intro x hx _ H2 e2 Q' q'
   obtain⟨n,hn,rfl⟩:=A9.mp hx
   exact he n H2 Q' (q' H2 (Same.refl _))
 . intro D H' hD e hd
   refine hQ D H' hD e ?_
   rw[hd,Dv,IM]
   rfl
theorem ao {a b:TS}{D:Ends}{σ:St}{H:Hp}(h:∀D':Ends,(∀σ H,b D σ H->D'.nx σ H)->(∀v H,D.rt v H->D'.rt v H)->(∀σ H,D.ct σ H->D'.ct σ H)->a D' σ H):tSeq a b D σ H:=h { D with nx:=b D } (fun _ _ z=>z) (fun _ _ z=>z) (fun _ _ z=>z)
open PySem.SeqAt
open AutoSeq1 (wpAny_loadPart')
open MeetsSeq MeetsSeq2 MeetsSeq3
section
variable {prog:Program}{w:World}
end
section
variable {X:Cx}
end
section
variable {X:Cx}
noncomputable def abd (_ j:Int):Prop:=0<j/\j<=10 ^ 60
theorem a5u:OpR X (binaryOp .FloorDiv) (rI abd fun i j=>.int (i / j)):=opI fun i j _ _ _ _ _ hc q=>by
 have h1:(0:Int)<j:=hc.1
 have h2:j<=10 ^ 60:=hc.2
 refine floordiv_int (by omega) (by rw[Fd i (by omega)];exact q) (.inl (PyProof.noPylong_of_log2 ?_))
 have h3:j.natAbs<2 ^ 200:=by
   have:(10:Int) ^ 60<2 ^ 200:=by decide +kernel
   omega
 have h4:j.natAbs.log2<200:=(Nat.log2_lt (by omega)).mpr h3
 omega
set_option autoImplicit true
set_option relaxedAutoImplicit true
theorem a4v (ho:QE X o td) (he:QE X e ty) (m:M1 X o "pop" apos e cpos:=by exact⟨rfl,rfl,rfl,rfl⟩):QE X (.Call (.Attribute o "pop" apos) [e] [] cpos) (a4l td ty):=⟨a5p ho.run he.run m⟩
end
section
variable {X:Cx}{pins:List (Addr×Obj)}{σ:St}{H:Hp}{s:Shared}{a b:Addr}{A:Around}{E:Value->Shared->Prop}
end
section
variable {X:Cx}{o e f:Expr}{apos cpos:Pos}{td ty tx:TE}
end
end L2
namespace Mir
open PySem L2
noncomputable def letters:Str := "abcdefghijklmnopqrstuvwxyz"
noncomputable def figures:Str := "0123456789"
noncomputable def noNames:List Str:=["nil","any","is","not","cell","stretch","tree","nothing","then","with"]
noncomputable def cz (c:Nat):Bool:=decide (c∈letters.cps.toList) || decide (c∈figures.cps.toList)
noncomputable def io:List Nat->Bool
 | []=>false
 | c::_=>decide (c∈letters.cps.toList)
noncomputable def b9 (x:Str):Bool:=if x = "" \/ 8<x.length\/x∈noNames then false else io x.cps.toList && x.cps.toList.all cz
theorem yr (a b:Str):eqV (.str a) (.str b)=decide (a=b):=by
 show (a == b)=decide (a=b)
 by_cases h:a=b
 . subst h;simp
 . rw[decide_eq_false h];exact beq_eq_false_iff_ne.mpr h
theorem gq (x:Str) (l:List Str):inV (.str x) (l.map V.str)=decide (x∈l):=by
 unfold inV
 rw[Cj,FB,decide_eq_true_eq]
 constructor
 . rintro⟨y,hy,e⟩
   obtain⟨z,hz,rfl⟩:=A9.mp hy
   rw[yr,decide_eq_true_eq] at e
   exact e ▸ hz
 . intro h
   exact⟨.str x,A9.mpr ⟨x,h,rfl⟩,by rw[yr];simp⟩
theorem i5 (l:List Str):(l.map V.str).all ie=true:=by
 rw[Da]
 intro v hv
 obtain⟨z,_,rfl⟩:=A9.mp hv
 rfl
end Mir
namespace K52
open PySem PySem.Spec L2 Mir
variable {P:Program}{w:World}{K:Ab}{mg:Str->Option Value}{base:Heap}{f g gS gN gA gW gI gL gF gO gT gB C fI CM CF fJ gD gR gU gM gH gE gC gK gX gP:Addr}{fd gd dS dN dA dW dI dL dF dO dT dB dD dR dU dM dH dE dC dK dX dP:FuncData}
noncomputable def top (i:Nat):Stmt:=PySem.Challenge.pw_apart_k52_calls_within_calls.main.body.getD i (.Pass ⟨0,0,0,0⟩)
noncomputable def forms:List (Str×List Str):=[("set",["name","value"]),("read",["name","name","field"]),("write",["name","field","value"]),("new",["name","value","value"]),("free",["name"])]
structure Con (K:Ab) (mg:Str->Option Value) (w:World):Prop where
 len:mg "len" = none
 all:mg "all" = none
 any:mg "any" = none
 isi:mg "isinstance" = none
 list:mg "list" = none
 int:mg "int" = none
 bool:mg "bool" = none
 str:mg "str" = none
 dict:mg "dict" = none
 sorted:mg "sorted" = none
 set:mg "set" = none
 sum:mg "sum" = none
 range:mg "range" = none
 tuple:mg "tuple" = none
 max:mg "max" = none
 zip:mg "zip" = none
 min:mg "min" = none
 enumerate:mg "enumerate" = none
 letters:Glob mg "LETTERS" (.str Mir.letters)
 figures:Glob mg "FIGURES" (.str Mir.figures)
 noNames:∃a,Glob mg "NO_NAMES" (.ref a)/\∀H,SqT K H a (Mir.noNames.map V.str)
 mostSigns:Glob mg "MOST_SIGNS" (.int 8)
 forms:∃(a:Addr) (ts:List (Str×Addr)),Glob mg "PLAIN_FORMS" (.ref a)/\ul K w a (ts.map fun x=>(x.1,V.ref x.2))/\ts.map (·.1)=forms.map (·.1)/\∀w t r,(w,t)∈ts->(w,r)∈forms->∀H,SqT K H t (r.map V.str)
 fields:∃a,Glob mg "FIELDS" (.ref a)/\(∀H,SqT K H a (([("first" : Str),"second"]:List Str).map V.str))/\∃o,K.lookup a=some o/\o.cls=.type "tuple" /\ o.dict=none
 places:∃a,Glob mg "CELL_PLACES" (.ref a)/\ul K w a [("read",.int 2),("write",.int 1),("free",.int 1)]
theorem iteB {b:Bool}{A B:Prop}(h1:b=true->A) (h2:b=false->B):if b=true then A else B:=by
 cases b with
 | true=>rw[if_pos rfl];exact h1 rfl
 | false=>rw[if_neg Am];exact h2 rfl
noncomputable def Short (x:Str):Prop:=x.length<=1000
theorem Short.line {x:Str}(h:Short x):x.length<=sizeLine:=Bw (dq h)
noncomputable def spB1 (f:Str->Bool):Sp:=fun vs H Q _=>∃x,vs=[.str x]/\Short x/\∀H',Same H H'->Q (.bl (f x)) H'
theorem ij {r:List Str}{k:Nat}:cutV (r.map V.str) (some (k:Int)) none=(r.drop k).map V.str:=by
 unfold cutV
 rw[HT.sIx_nat,HT.sIx_none,Ad]
 rw[List.map_drop.symm]
 by_cases h:k<=r.length
 . rw[EB h,Bm (by simp)]
 . rw[Iy (by omega),Nat.sub_self,BL,List.drop_eq_nil_of_le (by omega)];rfl
noncomputable def j8 (rs:List (List Str)):Prop:=rs.length<=200/\∀r∈rs,r.length<=5/\∀x∈r,Short x
theorem Paired.nth {α β:Type}{F:α->β->Prop}:∀{l₁:List α}{l₂:List β}{i:Nat}{a:α},Paired F l₁ l₂->l₁[i]? = some a->∃b,l₂[i]? = some b/\F a b
 | _,_,_,_,.nil,e=>by simp at e
 | _,_,0,_,.cons h _,e=>by simp at e;subst e;exact⟨_,rfl,h⟩
 | _,_,i+1,_,.cons _ t,e=>by
   obtain⟨b,e1,e2⟩:=Paired.nth (i:=i) t (by simpa using e)
   exact⟨b,by simpa using e1,e2⟩
theorem gty {X:Cx}{x:Str}{n:String}{pos:Pos}(hm:X.mg x=none) (hv:bootBuiltins x=some (.type n)) (hg:Gl X x:=by rfl) (hn:x ≠ "__name__" := by decide) (hdb:(x == ("__debug__" : Str))=false:=by decide):PE X (.Name x pos) (tC (.ty n)):=a98 hg hm hv rfl hn hdb
structure Cal (K:Ab) (mg:Str->Option Value) (x:Str) (f:Addr) (fd:FuncData) (ps:List Str):Prop where
 name:mg x=some (.ref f)
 keep:Cq K (.ref f)=true
 bind:Binds K fd ps []
theorem Paired.at2 {α β:Type}{F:α->β->Prop}{l₁:List α}{l₂:List β}{i:Nat}{a:α}{b:β}(h:Paired F l₁ l₂) (h1:l₁[i]? = some a) (h2:l₂[i]? = some b):F a b:=by
 obtain⟨b',e1,e2⟩:=Paired.nth h h1
 rw[h2] at e1
 cases e1
 exact e2
noncomputable def ef (r:List Str):List Str:=(r.drop 1).filter fun x => !decide (x∈Mir.noNames)
noncomputable def words (rs:List (List Str)):List Str:=(rs.map ef).flatten
theorem a2v (a b:List (List Str)):words (a++b)=words a++words b:=by unfold words;rw[Az,List.flatten_append]
theorem a1p (a:List (List Str)) (r:List Str):words (a++[r])=words a++ef r:=by rw[a2v];unfold words;simp
theorem j4:∀{rs:List (List Str)}{m:Nat},(∀r∈rs,r.length<=m)->(words rs).length<=rs.length*m
 | [],m,_=>by simp[words]
 | r::rs,m,h=>by
   have h1:=j4 (rs:=rs) (m:=m) (fun x hx=>h x (An _ hx))
   have h2:(ef r).length<=m:=by
     unfold ef
     have:=BN (fun x => !decide (x∈Mir.noNames)) (r.drop 1)
     have:=h r (Ah ..)
     have e:=Be (i:=1) (l:=r)
     omega
   have e:words (r::rs)=ef r++words rs:=by simp[words]
   rw[e,Ag,AD,Nat.succ_mul]
   omega
theorem Paired.app {α β:Type}{F:α->β->Prop}:∀{l₁:List α}{l₂:List β}{m₁:List α}{m₂:List β},Paired F l₁ l₂->Paired F m₁ m₂->Paired F (l₁++m₁) (l₂++m₂)
 | _,_,_,_,.nil,h=>h
 | _,_,_,_,.cons h t,h2=>.cons h (Paired.app t h2)
noncomputable def rp (K:Ab):Sp:=fun vs H Q _=>∃a fs ps,vs=[.ref a]/\aa9 K H a [fs,ps]/\j8 fs/\j8 ps/\(∀r∈fs++ps,r≠[])/\(∀ss:List Str,ss.Nodup->(∀y∈ss,y∈words (fs++ps))->ss.length<64)/\
 ∀(p:Addr) (zs:List Str) (H':Hp),H p=none->Same H H'->H' p=some (.lst (zs.map V.str))->zs.Nodup->(∀y,y∈zs↔y∈words (fs++ps))->DK zs=true->Q (.ref p) H'
noncomputable abbrev rq:Stmt:=top 6
noncomputable abbrev qd:Stmt:=top 7
theorem a4t:FnScope ["text"] ["text"] (aq rq):=⟨rfl,rfl,rfl,by decide +kernel,rfl,by decide +kernel,by decide +kernel⟩
theorem a3l (C:Con K mg w) (F:Fun K "is_name" "is_name" rq f fd):FnOk P w K mg base CX0 1 f fd ["text"] (spB1 b9):=by
 refine F.ok a4t (fun vs H Q E h=>?_) (fun cdv A outer s H vs Q E hr h=>?_)
 . obtain⟨x,rfl,_⟩:=h;rfl
 obtain⟨x,rfl,hx,q⟩:=h
 obtain⟨aN,gN,tN⟩:=C.noNames
 refine⟨_,kn (a7c (PW.pt (a09 (js bp (pv 0) xh (az _)) (a09 (js qh (lc lp rfl C.len Bk (ci (pv 0) i9)) (pe_g C.mostSigns) (az _))
     (a4p (js j5 (pv 0) (pe_g gN) (by with_unfolding_all rfl)))))) (jo (qe a6r)) zi)
   (jo (qe (a3u (o8 la (uj gj (pv 0) jx (fun _ _=>rfl)) (pe_g C.letters) (by with_unfolding_all rfl))
     (xa (lc (a6n rfl) rfl C.all PyProof.Rows.boot_all (ci (p6 (a9x (pv 0)) (fun _ _ _ _=>zq)
       (fun _ _ _ _=>ab5 (o8 la (pv 0) (pe_g C.letters) (by with_unfolding_all rfl)) (xa (o8 la (pv 0) (pe_g C.figures) (by with_unfolding_all rfl))))) i9)))))),?_⟩
 have hf:(x = "" \/ 8<x.length\/x∈Mir.noNames)->Q (.bl false) H:=fun h=>by
   have e:b9 x=false:=by unfold b9;rw[if_pos h]
   rw[<- e];exact q H (Same.refl H)
 refine⟨_,rfl,rfl,_,rfl,iteB (fun c=>hf (.inl (by simpa using c))) fun c=>?_⟩
 refine⟨_,rfl,x,rfl,hx.line,_,_,rfl,rfl,_,rfl,iteB (fun c2=>hf (.inr (.inl (by have:=of_decide_eq_true c2;omega)))) fun c2=>?_⟩
 refine⟨_,rfl,aN,_,rfl,.inr (tN _),rfl,i5 _,_,rfl,iteB (fun c3=>hf (.inr (.inr (by
   have c3':inV (.str x) (Mir.noNames.map V.str)=true:=c3
   rw[gq] at c3';exact of_decide_eq_true c3')))) fun c3=>?_⟩
 have c1':¬ x = "" := by simpa using c
 have c2':¬ 8<x.length:=by have:=of_decide_eq_false c2;omega
 have c3':¬ x∈Mir.noNames:=by
   have c3':inV (.str x) (Mir.noNames.map V.str)=false:=c3
   rw[gq] at c3';exact of_decide_eq_false c3'
 have e:b9 x=(io x.cps.toList && x.cps.toList.all cz):=by unfold b9;rw[if_neg (fun h=>h.elim c1' (fun h=>h.elim c2' c3'))]
 rw[e] at q
 cases hl:x.cps.toList with
 | nil =>
   exfalso
   apply c1'
   obtain⟨a⟩:=x
   have:a = #[]:=by simpa using hl
   rw[this];rfl
 | cons c0 r =>
   refine⟨_,rfl,x,0,c0,rfl,rfl,hx.line,(bn (j:=0) (by rw[hl];rfl)),c0,_,rfl,rfl,_,rfl,?_⟩
   have eh:io x.cps.toList=decide (c0∈Mir.letters.cps.toList):=by rw[hl];rfl
   refine iteB (fun ch=>?_) (fun ch=>?_)
   . rw[eh,ch,IY] at q
     refine⟨_,rfl,x,rfl,?_⟩
     refine pf (kh x) (fun _=>true) (fun v=>match v with|.str z=>.bl (cz (z.cps.toList.headD 0))|_=>.bl false) a4s trivial ?_ ?_ ?_ ?_
     . unfold kh;rw[Ad,Ba];exact hx.line
     . intro v hv H2 e2 Q' q'
       exact q' H2 (Same.refl _)
     . intro v hv _ H2 e2 Q' q'
       obtain⟨cc,hcc,rfl⟩:=A9.mp hv
       have q'':=q' H2 (Same.refl _)
       refine⟨_,rfl,cc,_,rfl,rfl,_,rfl,iteB (fun z=>?_) (fun z=>?_)⟩
       . have:cz cc=true:=by unfold cz;rw[show decide (cc∈Mir.letters.cps.toList)=true from z];rfl
         have q3:Q' (.bl (cz cc)) H2:=q''
         rw[this] at q3;exact q3
       . refine⟨_,rfl,cc,_,rfl,rfl,?_⟩
         have:cz cc=decide (cc∈Mir.figures.cps.toList):=by unfold cz;rw[show decide (cc∈Mir.letters.cps.toList)=false from z];rfl
         have q3:Q' (.bl (cz cc)) H2:=q''
         rw[this] at q3;exact q3
     . intro D H' hD e' hd
       refine⟨D,x.cps.toList.map cz,rfl,SqL.of ?_,?_⟩
       . rw[hd]
         congr 1
         congr 1
         unfold kh
         rw[List.filter_eq_self.mpr (fun _ _=>rfl),BO,BO]
         rfl
       . have e3:(x.cps.toList.map cz).all id=x.cps.toList.all cz:=by rw[List.all_map];rfl
         rw[e3]
         exact q H' e'
   . rw[eh,ch] at q
     exact q H (Same.refl _)
theorem scNamesOf:FnScope ["telling","names","row"] ["telling"] (aq qd):=⟨rfl,rfl,rfl,by decide +kernel,rfl,by decide +kernel,by decide +kernel⟩
theorem a0i (C:Con K mg w) (F:Fun K "names_of" "names_of" qd f fd):FnOk P w K mg base CX0 1 f fd ["telling"] (rp K):=by
 refine F.ok scNamesOf (fun vs H Q E h=>?_) (fun cdv A outer s H vs Q E hr h=>?_)
 . obtain⟨a,fs,ps,rfl,_⟩:=h;rfl
 obtain⟨a,fs,ps,rfl,ht,hf,hp,hne,h64,q⟩:=h
 obtain⟨aN,gN,tN⟩:=C.noNames
 obtain⟨as,t1,t2⟩:=ht
 cases t2 with
 | @cons fa _ _ _ t3 t4 =>
 cases t4 with
 | @cons pa _ _ _ t5 t6 =>
 cases t6
 obtain⟨fas,f1,f2⟩:=t3
 obtain⟨pas,p1,p2⟩:=t5
 refine⟨_,kn (a2t scNamesOf.nd (i:=1) rfl (Or.inl rfl) (xg i9))
   (kn (a3e AM rfl (zd (a6q gi (uj au (pv 0) jx (fun _ _=>rfl)) (uj au (pv 0) jx (fun _ _=>rfl)))) (nh (i:=2) scNamesOf.nd rfl (Or.inl rfl))
     (jo (a02 (a70 AW De Df j7 (pv 1)
       (ci (p6 (a3z (uz qk (pv 2) (yy jx) yt)) (fun _ _ _ _=>zy (js (show OpR _ _ (rIn K true) from v6) (pv 0) (pe_g gN) (by with_unfolding_all rfl))) (fun _ _ _ _=>pv 0)) i9)))))
     (jo (qe (lc (jb rfl) rfl C.sorted Ea (ci (ua (wc rfl) rfl C.set GG (ci (pv 1) i9)) i9))))),?_⟩
 refine⟨A8 _,fun n hn=>?_⟩
 have s1:Same H (upd H n (.lst [])):=ag hn _
 have fl:fas.length=fs.length:=Ax f2
 have pl:pas.length=ps.length:=Ax p2
 have b1:=hf.1
 have b2:=hp.1
 refine⟨_,rfl,a,_,0,.ref fa,rfl,rfl,s1.seqT t1,rfl,_,rfl,a,_,1,.ref pa,rfl,rfl,s1.seqT t1,rfl,?_⟩
 refine⟨fa,pa,_,_,rfl,rfl,s1 _ _ f1,s1 _ _ p1,?_,fun c hc=>?_⟩
 . rw[Ad,Ad];exact Bw (dq (by omega))
 have hcn:c≠n:=fun e=>by rw[e,aa] at hc;cases hc
 rw[<- Az]
 have s2:=ag hc (.lst ((fas++pas).map V.ref))
 refine⟨c,rfl,⟨_,SqL.of aa⟩,?_⟩
 have pr:Paired (fun b r=>RowAt K H b r) (fas++pas) (fs++ps):=Paired.app f2 p2
 have pl2:(fas++pas).length=(fs++ps).length:=Ax pr
 have hall:∀r∈fs++ps,r.length<=5:=fun r hr=>by
   rcases Al.mp hr with h|h
   . exact (hf.2 r h).1
   . exact (hp.2 r h).1
 refine gw (xs:=(fas++pas).map V.ref) (fun i σ H'=>Same H H'/\H' c=some (.lst ((fas++pas).map V.ref))/\H' n=some (.lst ((words ((fs++ps).take i)).map V.str))/\∃z,σ=[some (.ref a),some (.ref n),z]) ⟨s1.trans s2,aa,?_,_,rfl⟩ (fun i σ H' _ p=>SqL.of p.2.1) ?_ ?_
 . rw[ae (Br hcn),aa];rfl
 . rintro i v σ H' hi ⟨e,hc',hn',z,rfl⟩
   rw[Ai] at hi
   cases hb:(fas++pas)[i]? with
   | none=>rw[hb] at hi;cases hi
   | some b =>
     rw[hb] at hi
     have hv:v=.ref b:=(Ay hi).symm
     subst hv
     obtain⟨r,hr1,hr2⟩:=Paired.nth pr hb
     have hrm:r∈fs++ps:=Ar hr1
     have hrow:RowAt K H' b r:=hr2.same e
     have hr5:=hall r hrm
     have hr0:r.length≠0:=fun h=>hne r hrm (List.length_eq_zero_iff.mp h)
     refine⟨_,rfl,.inl ⟨rfl,_,SqL.of hn'⟩,_,rfl,_,rfl,b,_,rfl,hrow,?_,fun t hT=>?_⟩
     . rw[Ad,show (some (1:Int))=some ((1:Nat):Int) from rfl,HT.sIx_nat];omega
     have e1:cutV (r.map V.str) (some 1) none=(r.drop 1).map V.str:=ij (k:=1)
     rw[e1]
     have s3:Same H' (upd H' t (.tup ((r.drop 1).map V.str))):=ag hT _
     refine⟨t,rfl,⟨_,SqT.of aa⟩,?_⟩
     refine pf ((r.drop 1).map V.str) (fun v => !inV v (Mir.noNames.map V.str)) id wt (SqT.of aa) ?_ ?_ ?_ ?_
     . rw[Ad,Be];exact Bw (dq (by omega))
     . intro v hv H2 e2 Q' q'
       obtain⟨y,hy,rfl⟩:=A9.mp hv
       exact⟨_,rfl,aN,_,rfl,.inr (tN _),rfl,i5 _,_,rfl,q' H2 (Same.refl _)⟩
     . intro v hv hpv H2 e2 Q' q'
       obtain⟨y,hy,rfl⟩:=A9.mp hv
       exact⟨_,rfl,q' H2 (Same.refl _)⟩
     . intro D H2 hD e' hd
       have hw:(((r.drop 1).map V.str).filter (fun v => !inV v (Mir.noNames.map V.str))).map id=(ef r).map V.str:=by
         rw[Dv,IM]
         unfold ef
         congr 1
         apply List.filter_congr
         intro x _
         show (!inV (.str x) (Mir.noNames.map V.str))=_
         rw[gq]
       rw[hw] at hd
       have s4:Same H H2:=(e.trans s3).trans e'
       have ht1:(fs++ps).take (i+1)=(fs++ps).take i++[r]:=by rw[BY,hr1];rfl
       have wl:=j4 hall
       have wl2:(words ((fs++ps).take i)).length<=200*5+200*5:=by
         have h1:=j4 (rs:=(fs++ps).take i) (m:=5) (fun r hr=>hall r (BU hr))
         have h2:=List.length_take_le' i (fs++ps)
         rw[Ag] at h2
         omega
       have wl3:(ef r).length<=5:=by
         unfold ef
         have h1:=BN (fun x => !decide (x∈Mir.noNames)) (r.drop 1)
         have h2:=Be (i:=1) (l:=r)
         omega
       refine⟨n,D,_,_,rfl,rfl,e' _ _ (s3 _ _ hn'),hd,?_,?_⟩
       . rw[Ad,Ad]
         exact A0 (by omega) (show (2005:Nat)<=sizeLine by decide)
       refine⟨fun b' u q'=>?_,?_,?_,_,rfl⟩
       . rw[ae (aj q' hn)];exact s4 _ _ q'
       . rw[ae hcn];exact e' _ _ (s3 _ _ hc')
       . rw[aa,ht1,a1p,Az]
 . rintro σ H' ⟨e,hc',hn',z,rfl⟩
   rw[Ad,pl2,Bv] at hn'
   refine⟨_,rfl,n,_,rfl,SqL.of hn',?_,fun S ss hS hd=>?_⟩
   . have wl:=j4 hall
     rw[Ag] at wl
     show _<4096
     omega
   have s5:=ag hS (SetO P w S ss)
   refine⟨S,ss,rfl,aa,h64 ss hd.nodup (fun y hy=>(hd.mem y).mp hy),fun p zs hp' hzs hso=>?_⟩
   have s6:=ag hp' (.lst (zs.map V.str))
   refine q p zs _ ?_ (e.trans (s5.trans s6)) aa (hzs.nodup_iff.mpr hd.nodup) (fun y=>(hzs.mem_iff).trans (hd.mem y)) hso
   cases hH:H p with
   | none=>rfl
   | some u=>exact nomatch (s5 _ _ (e _ _ hH)).symm.trans hp'
section
variable {K:Ab}
end
noncomputable def i4 (ns:List Int) (k:Nat):Int:=(ns[k]?).getD 0
noncomputable def qy (K:Ab):Sp:=fun vs H Q _=>∃(a:Addr) (ns:List Int) (k:Nat),vs=[.ref a,.int (k:Int)]/\SqL K H a (ns.map V.int)/\Q (.int (i4 ns k)) H
theorem jr {α:Type}{xs:List α}{m:Int}{i:Int}(hl:(xs.length:Int)=m) (hm:0<m):∃v,atI xs (i % m)=some v/\v∈xs:=by
 have h0:=Bz i (DE hm)
 have h1:=BE i hm
 generalize i % m=j at h0 h1
 obtain⟨k,rfl⟩:=Int.eq_ofNat_of_zero_le h0
 have hk:k<xs.length:=by omega
 exact⟨xs[k],bn (Af hk),Dc hk⟩
noncomputable abbrev a0s:Stmt:=top 32
theorem aar:FnScope ["_law_script","_law_k"] ["_law_script","_law_k"] (aq a0s):=⟨rfl,rfl,rfl,by decide +kernel,rfl,by decide +kernel,by decide +kernel⟩
theorem a4j (C:Con K mg w) (F:Fun K "_law_cell_at" "_law_cell_at" a0s f fd):FnOk P w K mg base CX0 1 f fd ["_law_script","_law_k"] (qy K):=by
 refine F.okQ aar (fun vs H Q E h=>?_) (fun cdv A outer s H vs Q E hr h=>?_)
 . obtain⟨a,ns,k,rfl,_⟩:=h;rfl
 obtain⟨a,ns,k,rfl,hS,q⟩:=h
 refine⟨_,af (bf (ay um (qv 1) (bc dt rfl C.len Bk (ak (qv 0) ad)) (az _)) (ai (b0 (ah et (qv 0) (qv 1) (fun _ _=>rfl)))) bo)
   (ai (b0 ac)),?_⟩
 have hl:(ns.map V.int).length=ns.length:=Ad _
 refine⟨_,rfl,_,rfl,a,_,rfl,.inl hS,_,_,rfl,rfl,_,rfl,iteB (fun c=>?_) (fun c=>?_)⟩
 . have c':=of_decide_eq_true c
   rw[hl] at c'
   have hk:k<ns.length:=by omega
   have e:i4 ns k=ns[k]:=by unfold i4;rw[Af hk];rfl
   rw[e] at q
   exact⟨_,rfl,_,rfl,a,_,_,_,rfl,rfl,hS,bn (by rw[Ai,Af hk];rfl),q⟩
 . have c':=of_decide_eq_false c
   rw[hl] at c'
   have hk:ns.length<=k:=by omega
   have e:i4 ns k=0:=by unfold i4;rw[Bt hk];rfl
   rw[e] at q
   exact q
noncomputable def uq (K:Ab):Sp:=fun vs H Q _=>∃(a:Addr) (ns:List Int),vs=[.ref a]/\SqL K H a (ns.map V.int)/\∀H',Q (.bl true) H'
theorem ux (xs:List Str) (n:Nat) (hn:n<=xs.length):cutV (xs.map V.str) none (some (n:Int))=(xs.take n).map V.str:=by
 unfold cutV
 rw[HT.sIx_nat,HT.sIx_none,Ad,EB hn,Cr,DX,IX]
theorem zx {X:Cx}{i j:Nat}{x y:Str}{px py pos:Pos}{k:Nat}(h1:QG X (.Name x px) (b7 i)) (h2:QG X (.Name y py) (b7 j)) (hc:X.calm=true:=by rfl)
   (a1:(assignEach [.Name x px,.Name y py] X.env).map (·.2)=assign (.Name x px) X.env::(assignEach [.Name y py] X.env).map (·.2):=by rfl) (a2:(assignEach [.Name y py] X.env).map (·.2)=assign (.Name y py) X.env::(assignEach [] X.env).map (·.2):=by rfl)
   (hn:(assignEach [.Name x px,.Name y py] X.env).length=2:=by rfl) (hst:(assignEach [.Name x px,.Name y py] X.env).findIdx? (·.1)=none:=by rfl):QG X (.Tuple [.Name x px,.Name y py] k pos) (gTup X.K 2 (ga (b7 i) (ga (b7 j) gNil))) :=
 ⟨wf hc (di h1.run (di h2.run ni a2) a1) hn hst⟩
theorem c5 {X:Cx}{a:Expr}{ta:TE}{pos:Pos}{op:UnaryOp}{r:V->Hp->VK->Prop}(ho:UnR X (unaryOp op) r) (ha:QE X a ta):QE X (.UnaryOp op a pos) (tUn r ta):=⟨aax ho ha.run⟩
theorem bh {α:Type}{xs:List α}{v:α}:atI (xs++[v]) (-1)=some v:=by
 unfold atI ixN
 have h1:¬ (0:Int) <= -1:=by decide
 have h2 : -(((xs++[v]).length:Nat):Int) <= -1:=by rw[Ag,AK];omega
 rw[if_neg h1,if_pos h2]
 have h3:((-1:Int)+(((xs++[v]).length:Nat):Int)).toNat=xs.length:=by rw[Ag,AK];omega
 rw[h3]
 simp
end K52
namespace L2
open PySem PySem.Spec PyProof.Rows
section
variable {prog:Program}{w:World}{A:Around}{E:Value->Shared->Prop}{u:Shared}
theorem uk {j q:Addr}{k:Nat}{vals:Array Value}{v:Value}{R:Value->Shared->Prop}(a1:u.heap.IsTupleIter j q k) (a2:u.heap.IsTuple q vals) (a3:vals[k]? = some v)
   (hR:∀g,g.IsTupleIter j q (k+1)->Ck j u.heap g->R v { u with heap:=g }):wpAny (model prog w) A (AY (.ref j)) R E u:=by
 obtain⟨o,b1,b2,b3⟩:=id a1
 obtain⟨p,c1,c0,m,c2⟩:=a2
 have ty:=a1.typeIs
 unfold AY
 refine Aa (Bc ty CP (Bj CP ty EZ ?_ (EU _)))
 show wpAny (model prog w) _ (field (.ref j) 0 >>= _) _ _ u
 refine Aa (Bd b1 b3 (x:=.ref q) rfl ?_)
 have nn:¬ (Value.ref q == Value.none)=true:=Am
 show wpAny (model prog w) _ (if (Value.ref q == Value.none)=true then _ else _) _ _ u
 rw[if_neg nn]
 show wpAny (model prog w) _ (field (.ref j) 1 >>= _) _ _ u
 refine Aa (Bd b1 b3 (x:=.int k 0) rfl ?_)
 show wpAny (model prog w) _ (seqItems? (.ref q) >>= _) _ _ u
 refine Aa (Bb c1 c2 ?_)
 simp only[BI,a3]
 have kept:∀f:Array Value->Array Value,(u.heap.update j (Fi f)).get? j=some (Fi f o):=fun f=>Bp _ b1 (DD (CJ b3 _))
 refine Aa (ER b1 b3 (by simp) (Ae ⟨v,rfl,Ae (hR _ ⟨_,kept _,?_,?_⟩ (Cz ..))⟩))
 . rw[Ek];exact b2
 . rw[CJ b3];simp[rawInt]
theorem u8 {j q:Addr}{k:Nat}{vals:Array Value}{R:Value->Shared->Prop}(hh:A.handled=none) (a1:u.heap.IsTupleIter j q k) (a2:u.heap.IsTuple q vals) (a3:vals[k]? = none)
   (hE:∀g e,Ge j u.heap g->(∃o,g.get? e=some o/\o.cls=.type "StopIteration")->E (.ref e) { u with heap:=g }):wpAny (model prog w) A (AY (.ref j)) R E u:=by
 obtain⟨o,b1,b2,b3⟩:=id a1
 obtain⟨p,c1,c0,m,c2⟩:=a2
 have ty:=a1.typeIs
 unfold AY
 refine Aa (Bc ty CP (Bj CP ty EZ ?_ (EU _)))
 show wpAny (model prog w) _ (field (.ref j) 0 >>= _) _ _ u
 refine Aa (Bd b1 b3 (x:=.ref q) rfl ?_)
 have nn:¬ (Value.ref q == Value.none)=true:=Am
 show wpAny (model prog w) _ (if (Value.ref q == Value.none)=true then _ else _) _ _ u
 rw[if_neg nn]
 show wpAny (model prog w) _ (field (.ref j) 1 >>= _) _ _ u
 refine Aa (Bd b1 b3 (x:=.int k 0) rfl ?_)
 show wpAny (model prog w) _ (seqItems? (.ref q) >>= _) _ _ u
 refine Aa (Bb c1 c2 ?_)
 simp only[BI,a3]
 refine Aa (Cn (Aa (ER b1 b3 (by simp) ?_)))
 show wpAny (model prog w) _ (newExc (.type "StopIteration") [] >>= _) _ _ _
 refine Aa ?_
 unfold newExc newTuple
 refine Aa (AV ?_ (by size_fits))
 refine Aa (m:=firstArgMember _ _) (EV (a:=Value.none) (by simp only[firstArgMember];rfl) (AV ?_ (by size_fits)))
 refine EF ?_ ?_
 . exact hh
 . exact hE _ _ (((Cz ..).extBut.push _).push _) ⟨_,Ak _ rfl,rfl⟩
theorem a2e {z ti to j1 j2 q1 q2:Addr}{k1 k2:Nat}{xs ys:Array Value}{x y a b:Value}{R:Option Value->Shared->Prop}(D:ZipApart z ti to j1 j2 q1 q2) (g1:IsZip u.heap z ti to .none) (g2:IsPair u.heap ti (.ref j1) (.ref j2)) (g3:IsPair u.heap to a b)
   (t1:u.heap.IsTupleIter j1 q1 k1) (t2:u.heap.IsTupleIter j2 q2 k2) (v1:u.heap.IsTuple q1 xs) (v2:u.heap.IsTuple q2 ys) (hx:xs[k1]? = some x) (hy:ys[k2]? = some y)
   (hR:∀g,IsZip g z ti to (rawInt u.heap.objs.size)->IsPair g to x y->g.IsTupleIter j1 q1 (k1+1)->g.IsTupleIter j2 q2 (k2+1)->IsPair g u.heap.objs.size x y->
     (∀c o,c≠z->c≠to->c≠j1->c≠j2->u.heap.get? c=some o->g.get? c=some o)->R (some (.ref u.heap.objs.size)) { u with heap:=g }):wpAny (model prog w) A (pyNext (.ref z)) R E u:=by
 have ty:u.TypeIs (.ref z) "zip" := ⟨_,g1,rfl⟩
 unfold pyNext
 refine Aa (CO (Bc ty Cb (Bj Cb ty DL ?_ (DA _))))
 show wpAny (model prog w) _ (field (.ref z) 2 >>= _) _ _ u
 refine Aa (Bd g1 rfl (x:=.bool false) rfl ?_)
 show wpAny (model prog w) _ (field (.ref z) 3 >>= _) _ _ u
 refine Aa (Bd g1 rfl (x:=.ref ti) rfl (Aa (Bb g2 rfl ?_)))
 show wpAny (model prog w) _ (AN (.ref z) >>= _) _ _ u
 refine Aa ?_
 unfold AN
 refine Aa (Bd g1 rfl (x:=.none) rfl (Ae ?_))
 simp only[if_true]
 refine Aa (Cn (Aa (Bd g1 rfl (x:=.ref to) rfl (Aa (Bf g1 (by simp) fun m1 y1 d1=>?_)))))
 have z1:IsZip m1 z ti to .ellipsis:=y1
 refine Aa ?_
 simp only[FJ,FW,DR,Ed]
 refine Aa (Aa (Er ?_))
 show wpAny (model prog w) _ (AY (.ref j1) >>= _) _ _ _
 refine Aa (uk (t1.extBut d1.extBut D.i1z) (v1.extBut d1.extBut D.l1z) hx fun m2 y2 d2=>Ae ?_)
 have o2:IsPair m2 to a b:=d2.extBut _ _ D.TOi1 (d1.extBut _ _ D.TOz g3)
 refine Aa (Bb o2 rfl (Aa (DM o2 fun m3 y3 d3=>Aa (Dw (Ae ?_)))))
 have o3:IsPair m3 to x b:=y3
 refine Aa (Aa (Er ?_))
 show wpAny (model prog w) _ (AY (.ref j2) >>= _) _ _ _
 have w2:=((t2.extBut d1.extBut D.i2z).extBut d2.extBut D.i12.symm).extBut d3.extBut D.TOi2.symm
 have x2:=((v2.extBut d1.extBut D.l2z).extBut d2.extBut D.l2i1).extBut d3.extBut D.l2TO
 refine Aa (uk w2 x2 hy fun m4 y4 d4=>Ae ?_)
 have o4:IsPair m4 to x b:=d4.extBut _ _ D.TOi2 o3
 refine Aa (Bb o4 rfl (Aa (DM o4 fun m5 y5 d5=>Aa (Dw (Ae (Ae ?_))))))
 have o5:IsPair m5 to x y:=y5
 refine Aa (Bb o5 rfl (Aa (GJ ?_)))
 have sz:m5.objs.size=u.heap.objs.size:=by rw[d5.1,d4.1,d3.1,d2.1,d1.1]
 have z5:IsZip m5 z ti to .ellipsis:=d5.extBut _ _ D.TOz.symm (d4.extBut _ _ D.i2z.symm (d3.extBut _ _ D.TOz.symm (d2.extBut _ _ D.i1z.symm z1)))
 have kp:∀c o,c≠z->c≠to->c≠j1->c≠j2->u.heap.get? c=some o->m5.get? c=some o:=fun c o n1 n2 n3 n4 e=>d5.extBut _ _ n2 (d4.extBut _ _ n4 (d3.extBut _ _ n2 (d2.extBut _ _ n3 (d1.extBut _ _ n1 e))))
 have p1:m5.IsTupleIter j1 q1 (k1+1):=((y2.extBut d3.extBut D.TOi1.symm).extBut d4.extBut D.i12).extBut d5.extBut D.TOi1.symm
 have p2:m5.IsTupleIter j2 q2 (k2+1):=y4.extBut d5.extBut D.TOi2.symm
 show wpAny (model prog w) _ (Cf (.ref z) (.ref m5.objs.size) >>= _) _ _ _
 refine Aa ?_
 unfold Cf
 have z6:IsZip (m5.push { cls:=.type "tuple",data:=.seq #[x,y] }) z ti to .ellipsis:=Ac _ z5
 refine Aa (Bf z6 (by simp) fun m7 y7 d7=>?_)
 have z7:IsZip m7 z ti to (rawInt m5.objs.size):=y7
 refine Bf z7 (by simp) fun m8 y8 d8=>?_
 have z8:IsZip m8 z ti to (rawInt m5.objs.size):=y8
 have lift:∀c o,c≠z->m5.get? c=some o->m8.get? c=some o:=fun c o n1 e=>d8.extBut _ _ n1 (d7.extBut _ _ n1 (Ac _ e))
 have nz:m5.objs.size≠z:=BD (Ap z5)
 have np:IsPair m8 m5.objs.size x y:=d8.extBut _ _ nz (d7.extBut _ _ nz (Ak _ rfl))
 rw[sz] at z8 np
 refine Ae ⟨_,rfl,Ae ?_⟩
 show R (some (.ref m5.objs.size)) _
 rw[sz]
 exact hR m8 z8 (lift _ _ D.TOz o5) (p1.at fun o e=>lift _ o D.i1z e) (p2.at fun o e=>lift _ o D.i2z e) np fun c o n1 n2 n3 n4 e=>lift c o n1 (kp c o n1 n2 n3 n4 e)
theorem vn {z ti to j1 j2 q1 q2:Addr}{k1:Nat}{xs:Array Value}{R:Option Value->Shared->Prop}(hh:A.handled=none) (D:ZipApart z ti to j1 j2 q1 q2) (g1:IsZip u.heap z ti to .none) (g2:IsPair u.heap ti (.ref j1) (.ref j2))
   (t1:u.heap.IsTupleIter j1 q1 k1) (v1:u.heap.IsTuple q1 xs) (hx:xs[k1]? = none) (hR:∀g,(∀c o,c≠z->c≠j1->u.heap.get? c=some o->g.get? c=some o)->R none { u with heap:=g }):wpAny (model prog w) A (pyNext (.ref z)) R E u:=by
 have ty:u.TypeIs (.ref z) "zip" := ⟨_,g1,rfl⟩
 unfold pyNext
 refine Aa (CO (Bc ty Cb (Bj Cb ty DL ?_ (DA _))))
 show wpAny (model prog w) _ (field (.ref z) 2 >>= _) _ _ u
 refine Aa (Bd g1 rfl (x:=.bool false) rfl ?_)
 show wpAny (model prog w) _ (field (.ref z) 3 >>= _) _ _ u
 refine Aa (Bd g1 rfl (x:=.ref ti) rfl (Aa (Bb g2 rfl ?_)))
 show wpAny (model prog w) _ (AN (.ref z) >>= _) _ _ u
 refine Aa ?_
 unfold AN
 refine Aa (Bd g1 rfl (x:=.none) rfl (Ae ?_))
 simp only[if_true]
 refine Aa (Cn (Aa (Bd g1 rfl (x:=.ref to) rfl (Aa (Bf g1 (by simp) fun m1 y1 d1=>?_)))))
 have z1:IsZip m1 z ti to .ellipsis:=y1
 refine Aa ?_
 simp only[FJ,FW,DR,Ed]
 refine Aa (Aa (Er ?_))
 show wpAny (model prog w) _ (AY (.ref j1) >>= _) _ _ _
 refine Aa (u8 hh (t1.extBut d1.extBut D.i1z) (v1.extBut d1.extBut D.l1z) hx fun m2 e d2 he=>?_)
 obtain⟨oe,e1,e2⟩:=he
 have z2:IsZip m2 z ti to .ellipsis:=d2 _ _ D.i1z.symm z1
 have ne:e≠z:=fun q=>by
   subst q
   rw[z2] at e1
   cases e1
   simp at e2
 refine Bf z2 (by simp) fun m3 _ d3=>?_
 refine Aa (DJ (T := "StopIteration") (b:=true) ⟨oe,d3.extBut _ _ ne e1,e2⟩ EN ?_)
 exact Ae (hR m3 fun c o n1 n3 q=>d3.extBut _ _ n1 (d2 _ _ n3 (d1.extBut _ _ n1 q)))
end
noncomputable def Ity (K:Ab) (l1 l2:Addr):It where
 go:=fun i H=>∃xs ys x y,SqT K H l1 xs/\SqT K H l2 ys/\xs[i]? = some x/\ys[i]? = some y
 yld:=fun i H v H'=>∃x y p,(∀xs,SqT K H l1 xs->xs[i]? = some x)/\(∀ys,SqT K H l2 ys->ys[i]? = some y)/\H p=none/\H'=upd H p (.tup [x,y])/\v=.ref p
 stop:=fun i H=>∃xs ys,SqT K H l1 xs/\SqT K H l2 ys/\xs.length<=i
theorem nj {X:Cx}{pins:List (Addr×Obj)}{σ:St}{H:Hp}{s:Shared}{l:Addr}{xs:List V}(I:Inv X pins σ H s) (h:SqT X.K H l xs) (f:FpOk X pins H l):False:=by
 rcases h with (q|⟨o,q⟩)|⟨o,its,n,q,_⟩
 . rw[f.1] at q;cases q
 . rw[f.1] at q;cases q
 . have e:=I.ok.mod.kin _ _ q
   rcases f.2.2.2.1 with z|z
   . exact I.ok.noex l o e z
   . exact absurd (AB (Ap e) (A0 I.ok.bsz z)) (AZ _)
noncomputable def a77 (n l1 l2:Addr) (i:Nat) (h:Heap):Prop:=IsZip h (n+4) (n+2) (n+3) .none/\IsPair h (n+2) (.ref n) (.ref (n+1))/\(∃a b,IsPair h (n+3) a b)/\h.IsTupleIter n l1 i/\h.IsTupleIter (n+1) l2 i
theorem a3i {P:Program}{w:World}{K:Ab}{elts:List Expr}{x1} {pos:Pos}(n l1 l2:Addr):Turn P w K (.Tuple elts x1 pos) (Ity K l1 l2) (bg n) (n+4) (a77 n l1 l2) where
 mem:=by simp[bg]
 obj:=fun i h st b hb=>by
   obtain⟨hz,hTI,⟨a,c,hTO⟩,⟨o1,e1,c1,d1⟩,⟨o2,e2,c2,d2⟩⟩:=st
   unfold bg at hb
   simp only[Aq,AE,or_false] at hb
   rcases hb with rfl|rfl|rfl|rfl|rfl
   . exact⟨_,hz,fun v z=>by cases z⟩
   . exact⟨_,hTI,fun v z=>by cases z⟩
   . exact⟨_,hTO,fun v z=>by cases z⟩
   . exact⟨o1,e1,fun v z=>by rw[d1] at z;cases z⟩
   . exact⟨o2,e2,fun v z=>by rw[d2] at z;cases z⟩
 keep:=fun i h h' st k=>by
   obtain⟨hz,hTI,⟨a,c,hTO⟩,h1,h2⟩:=st
   exact⟨k _ (by simp[bg]) _ hz,k _ (by simp[bg]) _ hTI,⟨a,c,k _ (by simp[bg]) _ hTO⟩,h1.at fun o e=>k _ (by simp[bg]) o e,h2.at fun o e=>k _ (by simp[bg]) o e⟩
 item:=by
   intro X hP hw hK hc i pins s σ H E I hf st hg
   subst hP hw hK
   obtain⟨hz,hTI,⟨a,c,hTO⟩,h1,h2⟩:=st
   obtain⟨xs,ys,x,y,q1,q2,hx,hy⟩:=hg
   obtain⟨its1,r1,L1,_⟩:=I.tuple q1
   obtain⟨its2,r2,L2,_⟩:=I.tuple q2
   obtain⟨u,hu,ru⟩:=r1.get hx
   obtain⟨v,hv,rv⟩:=r2.get hy
   have D:ZipApart (n+4) (n+2) (n+3) n (n+1) l1 l2:=gy (fun z=>nj I q1 (hf _ z)) (fun z=>nj I q2 (hf _ z))
   refine a2e D hz hTI hTO h1 h2 (show s.heap.IsTuple l1 its1.toArray from L1) (show s.heap.IsTuple l2 its2.toArray from L2) (x:=u) (y:=v) (by simpa using hu) (by simpa using hv) fun h' a1 a2 a3 a4 a5 hk=>?_
   have I1:Inv X pins σ H { s with heap:=h' }:=I.turnedL (ch:=bg n) (t':=s.toks) (fun b o hb e=>by
     unfold bg at hb
     simp only[Aq,AE,or_false,not_or] at hb
     exact hk b o hb.1 hb.2.2.1 hb.2.2.2.1 hb.2.2.2.2 e) hf
   refine⟨.ref s.heap.objs.size,rfl,wpAny_letOwnedTupleGo_zip a1 fun h2' hz' hs'=>?_⟩
   have I2:Inv X pins σ H { s with heap:=h2' }:=I1.turnedL (s:={ s with heap:=h' }) (ch:=bg n) (t':=s.toks) (fun b o hb e=>by
     unfold bg at hb
     simp only[Aq,AE,or_false,not_or] at hb
     exact hs'.extBut _ _ hb.1 e) hf
   have fresh:H s.heap.objs.size=none:=I.hok.fresh (Aj _)
   have pz:s.heap.objs.size≠n+4:=BD (Ap hz)
   have I3:Inv X pins σ (upd H s.heap.objs.size (.tup [x,y])) { s with heap:=h2' }:=by
     refine I2.track fresh ?_ (BD I.lt) (fun z c' e e2'=>?_) (fun p hp e2'=>?_) ?_
     . cases q:X.s₀.heap.get? s.heap.objs.size with
       | none=>rfl
       | some o=>exact absurd (AB (Ap q) I.sz) (AZ _)
     . obtain⟨v',q⟩:=I.cell z c' e
       exact absurd (e2' ▸ q.lt) (AZ _)
     . exact absurd (e2' ▸ Ap (I.pin p hp).1) (AZ _)
     . exact⟨by show 2<=sizeLine;decide,[u,v],.cons ru (.cons rv .nil),⟨_,hs'.extBut _ _ pz a5,rfl,_,rfl⟩⟩
   have hpn:∀b∈bg n,b≠s.heap.objs.size:=fun b hb e=>by
     have q3:∃o,s.heap.get? b=some o:=by
       unfold bg at hb
       simp only[Aq,AE,or_false] at hb
       obtain⟨o1,g1,_⟩:=h1
       obtain⟨o2,g2,_⟩:=h2
       rcases hb with rfl|rfl|rfl|rfl|rfl
       . exact⟨_,hz⟩
       . exact⟨_,hTI⟩
       . exact⟨_,hTO⟩
       . exact⟨_,g1⟩
       . exact⟨_,g2⟩
     obtain⟨o,q3⟩:=q3
     exact absurd (e ▸ Ap q3) (AZ _)
   have hTI':IsPair h' (n+2) (.ref n) (.ref (n+1)):=hk _ _ D.TIz D.TITO D.TIi1 D.TIi2 hTI
   refine⟨.ref s.heap.objs.size,_,I3,rfl,⟨x,y,_,fun zs hz2=>by rw[I.tuple_inj hz2 q1];exact hx,fun zs hz2=>by rw[I.tuple_inj hz2 q2];exact hy,fresh,rfl,rfl⟩,⟨hz',hs'.extBut _ _ D.TIz hTI',⟨_,_,hs'.extBut _ _ D.TOz a2⟩,a3.extBut hs'.extBut D.i1z,a4.extBut hs'.extBut D.i2z⟩,fun b hb=>?_⟩
   rw[ae (hpn b hb)];exact (hf b hb).1
 done:=by
   intro X hP hw hK hc i pins s σ H E I hf st hg
   subst hP hw hK
   obtain⟨hz,hTI,⟨a,c,hTO⟩,h1,h2⟩:=st
   obtain⟨xs,ys,q1,q2,hl⟩:=hg
   obtain⟨its1,r1,L1,_⟩:=I.tuple q1
   have hlen:=r1.length
   have D:ZipApart (n+4) (n+2) (n+3) n (n+1) l1 l2:=gy (fun z=>nj I q1 (hf _ z)) (fun z=>nj I q2 (hf _ z))
   refine vn (I.ok.hd hc) D hz hTI h1 (show s.heap.IsTuple l1 its1.toArray from L1) (by rw[BM,Bt (by omega)]) fun h' hk=>⟨rfl,I.turnedL (ch:=bg n) (t':=s.toks) (fun b o hb e=>?_) hf⟩
   unfold bg at hb
   simp only[Aq,AE,or_false,not_or] at hb
   exact hk b o hb.1 hb.2.2.2.1 e
 self:=fun _ _ _ _ _ st h=>FK st.1 h
theorem a3k (l1 l2:Addr) (xs ys:Array Value):Meets (Builtin.«zip.__new__» ⟨[.type "zip",.ref l1,.ref l2],[]⟩) (fun _ R s=>s.heap.IsTuple l1 xs/\s.heap.IsTuple l2 ys/\
   R (.ok (.ret (.ref (s.heap.objs.size+4)))) { s with heap:=((((s.heap.push { cls:=.type "tuple_iterator",data:=.fields #[.ref l1,.int 0 0] }).push { cls:=.type "tuple_iterator",data:=.fields #[.ref l2,.int 0 0] }).push { cls:=.type "tuple",data:=.seq #[.ref s.heap.objs.size,.ref (s.heap.objs.size+1)] }).push { cls:=.type "tuple",data:=.seq #[.none,.none] }).push { cls:=.type "zip",data:=.fields #[.none,.bool false,.bool false,.ref (s.heap.objs.size+2),.ref (s.heap.objs.size+3)] } }) :=
 .of_wp fun prog w A R s h=>by
   obtain⟨m,g,d,tk,os⟩:=s
   obtain⟨a1,a2,h⟩:=h
   have sub:=sub_zip
   have b1:HM (Gh ⟨m,g,d,tk,os⟩) l1 xs:=a1
   have b2:HM (Gh ⟨m.push { cls:=.type "tuple_iterator",data:=.fields #[.ref l1,.int 0 0] },g,d,tk,os⟩) l2 ys:=by
     obtain⟨o,e,r⟩:=a2
     exact⟨o,Ac _ e,r⟩
   have z1:(m.push { cls:=.type "tuple_iterator",data:=.fields #[.ref l1,.int 0 0] }).objs.size=m.objs.size+1:=Bh ..
   wp_walk using DT b1,DT b2
   refine⟨_,rfl,?_⟩
   simp only[Bh]
   exact h
section
variable {X:Cx}
noncomputable def a0e (K:Ab) (ta:TA):TI:=fun σ H R=>ta σ H fun vs H1=>∃l1 l2 xs ys,vs=[.ref l1,.ref l2]/\SqT K H1 l1 xs/\SqT K H1 l2 ys/\R (Ity K l1 l2) H1
theorem a85 {a b:Expr}{ta:TA}{p pos tpos:Pos}{elts:List Expr}{x1} (hg:Gl X "zip") (hm:X.mg "zip" = none) (ha:PA X [a,b] ta) (hs:starEach [a,b] X.env=[(false,eval a X.env),(false,eval b X.env)]) (hs2:starEach [b] X.env=[(false,eval b X.env)]) :
   PI X (.Tuple elts x1 tpos) (.Call (.Name "zip" p) [a,b] [] pos) (a0e X.K ta):=by
 intro pins s σ H R I h
 refine Call_ (fj I hg hm boot_zip (Bs (thn (ha pos pins s σ H _ I h) fun us s1 ⟨vs,H1,I1,r1,q1⟩=>?_) (by rw[hs,hs2]) (by rw[hs2];rfl)))
 obtain⟨l1,l2,xs,ys,e,q1,q2,q⟩:=q1
 subst e
 cases r1 with
 | cons r rr =>
   cases rr with
   | cons r' rr =>
     cases rr
     cases r
     cases r'
     obtain⟨its1,v1,e1,_⟩:=I1.tuple q1
     obtain⟨its2,v2,e2,_⟩:=I1.tuple q2
     have T1:s1.heap.IsTuple l1 its1.toArray:=e1
     have T2:s1.heap.IsTuple l2 its2.toArray:=e2
     refine callType_new F.called_zip (by decide) (IA _ _) (IP _ _) (fun obj=>Hn obj _ _) IQ (a3k l1 l2 its1.toArray its2.toArray) ⟨T1,T2,?_⟩
     have z1:∀(m:Heap) (o:Obj),(m.push o).objs.size=m.objs.size+1:=fun m o=>Bh ..
     have hk:∀b o,s1.heap.get? b=some o->∀o1 o2 o3 o4 o5,(((((s1.heap.push o1).push o2).push o3).push o4).push o5).get? b=some o:=fun b o e o1 o2 o3 o4 o5=>Ac _ (Ac _ (Ac _ (Ac _ (Ac _ e))))
     have at0:∀o1 o2 o3 o4 o5:Obj,o1.isFreed=false->(((((s1.heap.push o1).push o2).push o3).push o4).push o5).get? s1.heap.objs.size=some o1:=fun o1 o2 o3 o4 o5 f=>Ac _ (Ac _ (Ac _ (Ac _ (Ak _ f))))
     have at1:∀o1 o2 o3 o4 o5:Obj,o2.isFreed=false->(((((s1.heap.push o1).push o2).push o3).push o4).push o5).get? (s1.heap.objs.size+1)=some o2:=fun o1 o2 o3 o4 o5 f=>by rw[<- z1 s1.heap o1];exact Ac _ (Ac _ (Ac _ (Ak _ f)))
     have at2:∀o1 o2 o3 o4 o5:Obj,o3.isFreed=false->(((((s1.heap.push o1).push o2).push o3).push o4).push o5).get? (s1.heap.objs.size+2)=some o3:=fun o1 o2 o3 o4 o5 f=>by
       have e:s1.heap.objs.size+2=((s1.heap.push o1).push o2).objs.size:=by rw[z1,z1]
       rw[e];exact Ac _ (Ac _ (Ak _ f))
     have at3:∀o1 o2 o3 o4 o5:Obj,o4.isFreed=false->(((((s1.heap.push o1).push o2).push o3).push o4).push o5).get? (s1.heap.objs.size+3)=some o4:=fun o1 o2 o3 o4 o5 f=>by
       have e:s1.heap.objs.size+3=(((s1.heap.push o1).push o2).push o3).objs.size:=by rw[z1,z1,z1]
       rw[e];exact Ac _ (Ak _ f)
     have at4:∀o1 o2 o3 o4 o5:Obj,o5.isFreed=false->(((((s1.heap.push o1).push o2).push o3).push o4).push o5).get? (s1.heap.objs.size+4)=some o5:=fun o1 o2 o3 o4 o5 f=>by
       have e:s1.heap.objs.size+4=((((s1.heap.push o1).push o2).push o3).push o4).objs.size:=by rw[z1,z1,z1,z1]
       rw[e];exact Ak _ f
     have g1:=at4 { cls:=.type "tuple_iterator",data:=.fields #[.ref l1,.int 0 0] } { cls:=.type "tuple_iterator",data:=.fields #[.ref l2,.int 0 0] } { cls:=.type "tuple",data:=.seq #[.ref s1.heap.objs.size,.ref (s1.heap.objs.size+1)] } { cls:=.type "tuple",data:=.seq #[.none,.none] } { cls:=.type "zip",data:=.fields #[.none,.bool false,.bool false,.ref (s1.heap.objs.size+2),.ref (s1.heap.objs.size+3)] } rfl
     refine⟨⟨_,g1,rfl⟩,?_⟩
     refine FK (s:={ s1 with heap:=_ }) g1 ?_
     refine⟨s1.heap.objs.size+4,bg s1.heap.objs.size,a77 s1.heap.objs.size l1 l2,Ity X.K l1 l2,H1,rfl,I1.kept (t':=s1.toks) fun b o e=>hk b o e _ _ _ _ _,a3i _ _ _,⟨g1,at2 _ _ _ _ _ rfl,⟨_,_,at3 _ _ _ _ _ rfl⟩,⟨_,at0 _ _ _ _ _ rfl,rfl,rfl⟩,⟨_,at1 _ _ _ _ _ rfl,rfl,rfl⟩⟩,fun b hb=>?_,q⟩
     have hge:s1.heap.objs.size<=b:=by
       unfold bg at hb
       simp only[Aq,AE,or_false] at hb
       rcases hb with rfl|rfl|rfl|rfl|rfl
       . exact Bu _ 4
       . exact Bu _ 2
       . exact Bu _ 3
       . exact Aj _
       . exact Bu _ 1
     exact I1.fpOk (H':=H1) hge (I1.hok.fresh hge)
theorem zu {a b:Expr}{ta:TA}{p pos tpos:Pos}{elts:List Expr}{x1} (hg:Gl X "zip") (hm:X.mg "zip" = none) (ha:QA X [a,b] ta) (hs:starEach [a,b] X.env=[(false,eval a X.env),(false,eval b X.env)]:=by rfl) (hs2:starEach [b] X.env=[(false,eval b X.env)]:=by rfl) :
   QI X (.Tuple elts x1 tpos) (.Call (.Name "zip" p) [a,b] [] pos) (a0e X.K ta):=⟨a85 hg hm ha.run hs hs2⟩
end
theorem a5x {K:Ab}{l1 l2:Addr}{xs ys:List V}{g:TG}{tb:TS}{D:Ends}{σ:St}{H:Hp}(Pv:Nat->St->Hp->Prop) (h0:Pv 0 σ H) (hl:∀i σ H,Pv i σ H->SqT K H l1 xs/\SqT K H l2 ys) (hxy:xs.length=ys.length)
   (hs:∀i x y σ H p,xs[i]? = some x->ys[i]? = some y->Pv i σ H->H p=none->g (.ref p) σ (upd H p (.tup [x,y])) fun σ2 H2=>tb { D with nx:=Pv (i+1),ct:=Pv (i+1),bk:=D.nx } σ2 H2) (hd:∀σ H,Pv xs.length σ H->D.nx σ H) :
   ∃W:Nat->Nat->St->Hp->Prop,(∃m,W 0 m σ H)/\∀i m σ H,W i m σ H->
     ((Ity K l1 l2).stop i H/\D.nx σ H)\/((Ity K l1 l2).go i H/\∃N:St->Hp->Prop,(∀σ' H',N σ' H'->∃m',m'<m/\W (i+1) m' σ' H')/\∀x H',(Ity K l1 l2).yld i H x H'->g x σ H' fun σ2 H2=>tb { D with nx:=N,ct:=N,bk:=D.nx } σ2 H2):=by
 refine⟨fun i m σ H=>m=xs.length - i/\i<=xs.length/\Pv i σ H,⟨xs.length,by simp,A8 _,h0⟩,?_⟩
 rintro i m σ H ⟨rfl,hi,p⟩
 obtain⟨q1,q2⟩:=hl i σ H p
 by_cases hlt:i<xs.length
 . refine .inr ⟨⟨xs,ys,xs[i],ys[i],q1,q2,by simp[hlt],by simp[show i<ys.length by omega]⟩,Pv (i+1),fun σ' H' p'=>⟨xs.length - (i+1),by omega,rfl,hlt,p'⟩,fun x H' y=>?_⟩
   obtain⟨x',y',p',g1,g2,hn,rfl,rfl⟩:=y
   exact hs i x' y' σ H p' (g1 _ q1) (g2 _ q2) p hn
 . have e:i=xs.length:=by omega
   subst e
   exact .inl ⟨⟨xs,ys,q1,q2,Aj _⟩,hd σ H p⟩
section
variable {X:Cx}
noncomputable def abe (K:Ab) (w:World) (td ty:TE):TE:=fun σ H Q=>td σ H fun x H1=>ty σ H1 fun y H2=>∃a kvs z v,x=.ref a/\y=.str z/\ul K w a kvs/\kvs.lookup z=some v/\Q v H2
theorem a8b {K:Ab}{w:World}{o i:Expr}{pos:Pos}{td ty:TE}(hK:X.K=K) (hw:X.w=w) (ho:QE X o td) (hi:QE X i ty) (hs:NoSl i):QE X (.Subscript o i pos) (abe K w td ty):=by
 subst hK hw
 refine⟨fun pins s σ H Q I h=>?_⟩
 refine zj Fu.lookup hs (thn (ho.run pins s σ H _ I h) fun u s1 ⟨x,H1,I1,rx,q1⟩=>thn (hi.run pins s1 σ H1 _ I1 q1) fun iv s2 ⟨y,H2,I2,ry,a,kvs,z,v,ex,ey,hd,hv,q2⟩=>?_)
 subst ex ey
 obtain rfl:u=Value.ref a:=rx
 obtain⟨t',rfl⟩:=ry
 obtain⟨es,n,hl,hk,hno,hr⟩:=hd
 have mp2:s2.heap.MapOf (strKind X.prog X.w) a (fun k=>findBy BV es k):=IK I2.kIn hl hk
 have hz:=hr z
 rw[hv] at hz
 obtain⟨w',hw',rw'⟩:=RelO.some_of (v:=v) (o:=findBy BV es z) hz
 exact⟨mp2.typeIs,Ir (Fs _ _ z t') mp2 hw' ⟨v,H2,I2.tok _,rw',q2⟩⟩
end
end L2
namespace K52
open PySem PySem.Spec L2 Mir
variable {P:Program}{w:World}{K:Ab}{mg:Str->Option Value}{base:Heap}{f g gS gN gA gW gI gL gF gO gT gB C fI CM CF fJ gD gR gU gM gH gE gC gK gX gP:Addr}{fd gd dS dN dA dW dI dL dF dO dT dB dD dR dU dM dH dE dC dK dX dP:FuncData}
theorem lenK {X:Cx}{K:Ab}(h:X.K=K):c7 X (.builtin "len") (fun xs H Q=>∃p ys,xs=[.ref p]/\(SqL K H p ys\/SqT K H p ys)/\Q (.int ys.length) H):=by subst h;exact dt
theorem ixTK {X:Cx}{K:Ab}(h:X.K=K):IxR X (rIxT K):=by subst h;exact au
theorem ixK {X:Cx}{K:Ab}(h:X.K=K):IxR X (rIxL K):=by subst h;exact et
theorem bu {n:Nat}(h:n<=1000):n<sizeLine:=dq h
theorem bi {n:Nat}(h:n<=1000):n<=sizeLine:=Bw (dq h)
theorem at0 {α:Type}{x:α}{xs:List α}:atI (x::xs) 0=some x:=bn (xs:=x::xs) (v:=x) (j:=0) rfl
noncomputable def Ok (x:Str):Prop:=(PyData.str x).canLay0=true
inductive Pl
 | row (r:List Str)
 | call (x c:Str) (vs:List Str)
noncomputable def PlAt (H:Hp) (t:Addr):Pl->Prop
 | .row r=>H t=some (.tup (r.map V.str))
 | .call x c vs=>∃v,H t=some (.tup [.str "call",.str x,.str c,.ref v])/\H v=some (.tup (vs.map V.str))
theorem PlAt.same {H H':Hp}{t:Addr}{p:Pl}(h:PlAt H t p) (e:Same H H'):PlAt H' t p:=by
 cases p with
 | row r=>exact e _ _ h
 | call x c vs=>obtain⟨v,h1,h2⟩:=h;exact⟨v,e _ _ h1,e _ _ h2⟩
noncomputable def PlOk:Pl->Prop
 | .row r=>(∃h r' fs,r=h::r'/\(h,fs)∈forms/\fs.length=r'.length)/\∀y∈r,Ok y
 | .call x c vs=>Ok x/\Ok c/\∀y∈vs,Ok y
theorem v9:∀c∈Mir.letters.cps.toList++Mir.figures.cps.toList,c<128:=by decide +kernel
theorem ju {y:Str}(h:b9 y=true):Ok y:=by
 have h2:y.cps.toList.all cz=true:=by
   unfold b9 at h
   split at h
   . cases h
   . rw[BR] at h;exact h.2
 unfold Ok
 simp only[GQ]
 unfold PyData.strOk
 rw[<- Array.all_toList,Da]
 intro c hc
 have h3:=Da.mp h2 c hc
 unfold cz at h3
 rw[Bool.or_eq_true] at h3
 have:c<128:=v9 c (Al.mpr (h3.imp of_decide_eq_true of_decide_eq_true))
 simp only[decide_eq_true_eq]
 omega
theorem kf:∀y∈([("set" : Str),"read","write","new","free","first","second","nil","any","","is","not","if","while","call","cell","stretch","tree"]:List Str),(PyData.str y).canLay0=true:=by decide +kernel
theorem qb:∀x∈forms,x.1 ≠ "if" /\ x.1 ≠ "while" /\ x.1 ≠ "call" := by decide +kernel
theorem yl {H:Hp}{t:Addr}{p:Pl}(h:PlAt H t p) (ok:PlOk p):∃(w:Str) (vs:List V),H t=some (.tup (.str w::vs))/\w ≠ "if" /\ w ≠ "while" := by
 cases p with
 | row r=>obtain⟨⟨w,r',fs,rfl,h1,h2⟩,_⟩:=ok;exact⟨w,r'.map V.str,h,(qb _ h1).1,(qb _ h1).2.1⟩
 | call x c vs=>obtain⟨v,h1,h2⟩:=h;exact⟨"call",_,h1,by decide +kernel,by decide +kernel⟩
inductive Deed
 | plain (p:Pl)
 | cond (r:List Str) (a b:List Deed)
 | loop (r:List Str) (F P:List (List Str)) (a:List Deed)
inductive DeedX (K:Ab) (H:Hp) (L:Addr->List Deed->Prop) (t:Addr):Deed->Prop
 | plain (p:Pl) (h1:PlAt H t p) (h2:PlOk p):DeedX K H L t (.plain p)
 | cond (c i o:Addr) (r:List Str) (a b:List Deed) (h:H t=some (.tup [.str "if",.ref c,.ref i,.ref o])) (hc:H c=some (.tup (r.map V.str))) (okr:∀y∈r,Ok y) (hi:L i a) (ho:L o b):DeedX K H L t (.cond r a b)
 | loop (c td i fa pa:Addr) (r:List Str) (F P:List (List Str)) (a:List Deed) (h:H t=some (.tup [.str "while",.ref c,.ref td,.ref i])) (hc:H c=some (.tup (r.map V.str))) (okr:∀y∈r,Ok y) (htd:H td=some (.tup [.ref fa,.ref pa])) (hF:RowsAt K H fa F) (hP:RowsAt K H pa P) (okF:∀r∈F,∀y∈r,Ok y) (okP:∀r∈P,∀y∈r,Ok y) (lF:F.length<=10) (lP:P.length<=10) (hi:L i a):DeedX K H L t (.loop r F P a)
noncomputable def ListX (K:Ab) (H:Hp):List Nat->Addr->List Deed->Prop
 | [],_,_=>False
 | b::bs,l,ds=>∃ts:List Addr,H l=some (.lst (ts.map V.ref))/\Paired (DeedX K H (ListX K H bs)) ts ds/\ts.length<=b
section
variable {K:Ab}{H H':Hp}
theorem DeedX.same {L L':Addr->List Deed->Prop}{t:Addr}{d:Deed}(h:DeedX K H L t d) (e:Same H H') (hL:∀l ds,L l ds->L' l ds):DeedX K H' L' t d:=by
 cases h with
 | plain p h1 h2=>exact .plain p (h1.same e) h2
 | cond c i o r a b h hc okr hi ho=>exact .cond c i o r a b (e _ _ h) (e _ _ hc) okr (hL _ _ hi) (hL _ _ ho)
 | loop c td i fa pa r F P a h hc okr htd hF hP okF okP lF lP hi=>exact .loop c td i fa pa r F P a (e _ _ h) (e _ _ hc) okr (e _ _ htd) (hF.same e) (hP.same e) okF okP lF lP (hL _ _ hi)
theorem ListX.same:∀{bs:List Nat}{l:Addr}{ds:List Deed},ListX K H bs l ds->Same H H'->ListX K H' bs l ds
 | [],_,_,h,_=>h.elim
 | b::bs,l,ds,h,e=>by
   obtain⟨ts,h1,h2,h3⟩:=h
   exact⟨ts,e _ _ h1,Paired.mapP h2 fun _ _ z=>z.same e fun _ _ y=>ListX.same y e,h3⟩
structure Prc where
 name:Str
 res:Str
 ps:List Str
 F1:List (List Str)
 P1:List (List Str)
 F2:List (List Str)
 P2:List (List Str)
 body:List Deed
structure PrcX (K:Ab) (H:Hp) (bs:List Nat) (t pt t1 t2 f1 p1 f2 p2 bd:Addr) (p:Prc):Prop where
 tup:H t=some (.tup [.str p.name,.ref pt,.str p.res,.ref t1,.ref t2,.ref bd])
 pt:H pt=some (.tup (p.ps.map V.str))
 t1:H t1=some (.tup [.ref f1,.ref p1])
 t2:H t2=some (.tup [.ref f2,.ref p2])
 f1:RowsAt K H f1 p.F1
 p1:RowsAt K H p1 p.P1
 f2:RowsAt K H f2 p.F2
 p2:RowsAt K H p2 p.P2
 body:ListX K H bs bd p.body
 okn:Ok p.name
 okr:Ok p.res
 okp:∀y∈p.ps,Ok y
 ok1:(∀r∈p.F1,∀y∈r,Ok y)/\∀r∈p.P1,∀y∈r,Ok y
 ok2:(∀r∈p.F2,∀y∈r,Ok y)/\∀r∈p.P2,∀y∈r,Ok y
 l1:p.F1.length<=10/\p.P1.length<=10
 l2:p.F2.length<=10/\p.P2.length<=10
noncomputable def PrcAt (K:Ab) (H:Hp) (bs:List Nat) (t:Addr) (p:Prc):Prop:=∃pt t1 t2 f1 p1 f2 p2 bd,PrcX K H bs t pt t1 t2 f1 p1 f2 p2 bd p
theorem PrcAt.same {bs:List Nat}{t:Addr}{p:Prc}(h:PrcAt K H bs t p) (e:Same H H'):PrcAt K H' bs t p:=by
 obtain⟨pt,t1,t2,f1,p1,f2,p2,bd,x⟩:=h
 exact⟨pt,t1,t2,f1,p1,f2,p2,bd,e _ _ x.tup,e _ _ x.pt,e _ _ x.t1,e _ _ x.t2,x.f1.same e,x.p1.same e,x.f2.same e,x.p2.same e,x.body.same e,x.okn,x.okr,x.okp,x.ok1,x.ok2,x.l1,x.l2⟩
end
noncomputable def innL:Deed->List (List Deed)
 | .plain _=>[]
 | .cond _ a b=>[a,b]
 | .loop _ _ _ a=>[a]
inductive spLists (vs:List V) (H:Hp) (Q:VK) (E:XK):Prop
 | cond (t i o:Addr) (c:V) (h0:vs=[.ref t]) (h:H t=some (.tup [.str "if",c,.ref i,.ref o])) (q:∀l,H l=none->Q (.ref l) (upd H l (.lst [.ref i,.ref o])))
 | loop (t i:Addr) (c d:V) (h0:vs=[.ref t]) (h:H t=some (.tup [.str "while",c,d,.ref i])) (q:∀l,H l=none->Q (.ref l) (upd H l (.lst [.ref i])))
 | none (t:Addr) (w:Str) (vs':List V) (h0:vs=[.ref t]) (h:H t=some (.tup (.str w::vs'))) (n1:w ≠ "if") (n2:w ≠ "while") (q:∀l,H l=none->Q (.ref l) (upd H l (.lst [])))
theorem a63 {K:Ab}{bs:List Nat}{H H0:Hp}{t:Addr}{d:Deed}{vs:List V}{Q:VK}{E:XK}(h:DeedX K H0 (ListX K H0 bs) t d) (e:Same H0 H) (h0:vs=[.ref t]) (q:∀l as,H l=none->Paired (ListX K H0 bs) as (innL d)->Q (.ref l) (upd H l (.lst (as.map V.ref)))):spLists vs H Q E:=by
 cases h with
 | plain p h1 h2 =>
   obtain⟨w,vs',hw,n1,n2⟩:=yl h1 h2
   exact .none t w vs' h0 (e _ _ hw) n1 n2 fun l hl=>q l [] hl .nil
 | cond c i o r a b h hc okr hi ho=>exact .cond t i o _ h0 (e _ _ h) fun l hl=>q l [i,o] hl (.cons hi (.cons ho .nil))
 | loop c td i fa pa r F P a h hc okr htd hF hP okF okP lF lP hi=>exact .loop t i _ _ h0 (e _ _ h) fun l hl=>q l [i] hl (.cons hi .nil)
end K52
namespace L2
open PySem PySem.Spec
noncomputable def zipF (p:Str->Bool) (as bs:List Str):List Str:=((as.zip bs).filter fun x=>p x.1).map (·.2)
theorem a3v {K:Ab}{l1 l2:Addr}{H1:Hp}{σ:St}{ix:List Nat}{tc:TT}{te:TE}{Q:VK}(as bs:List Str) (p:Str->Bool) (h1:SqT K H1 l1 (as.map V.str)) (h2:SqT K H1 l2 (bs.map V.str)) (hl:as.length=bs.length) (hz:as.length<=1000)
   (ht:∀a b H2,∀Q':Bool->Hp->Prop,Q' (p a) H2->tc (some (.str a)::some (.str b)::bq σ ix) H2 Q')
   (he:∀a b H2,∀Q':VK,Q' (.str b) H2->te (some (.str a)::some (.str b)::bq σ ix) H2 Q')
   (hQ:∀D H',H1 D=none->Same H1 H'->H' D=some (.lst ((zipF p as bs).map V.str))->Q (.ref D) H'):zb K (Ity K l1 l2) H1 σ ix tc te Q:=by
 intro D hD
 have put:∀H ys,Same H1 H->Same H1 (upd H D (.lst ys)):=fun H ys e b u q=>by rw[ae (aj q hD)];exact e b u q
 have zl:(as.zip bs).length=as.length:=by rw[Dr,<- hl,HN]
 refine⟨fun i m H=>i<=as.length/\m=as.length - i/\Same H1 H/\H D=some (.lst (((((as.zip bs).take i).filter fun x=>p x.1).map (·.2)).map V.str)),⟨as.length,A8 _,rfl,put _ _ (Same.refl _),aa⟩,?_⟩
 rintro i m H ⟨hi,rfl,e,hD'⟩
 by_cases hlt:i<as.length
 . have ha:as[i]? = some as[i]:=Af hlt
   have hb:bs[i]? = some (bs[i]'(by omega)):=Af (by omega)
   generalize as[i]=a at ha
   generalize bs[i]'(by omega)=b at hb
   refine .inr ⟨⟨_,_,.str a,.str b,e.seqT h1,e.seqT h2,by rw[Ai,ha];rfl,by rw[Ai,hb];rfl⟩,fun x H' hy=>?_⟩
   obtain⟨x',y',p',g1,g2,g3,rfl,rfl⟩:=hy
   have g1':=g1 _ (e.seqT h1)
   have g2':=g2 _ (e.seqT h2)
   rw[Ai,ha] at g1'
   rw[Ai,hb] at g2'
   cases g1'
   cases g2'
   have s1:=ag g3 (.tup [V.str a,V.str b])
   have hzi:(as.zip bs)[i]? = some (a,b):=by rw[Fw];exact⟨ha,hb⟩
   refine⟨p',_,_,rfl,SqT.of aa,ht a b _ _ ?_⟩
   have hD2:=s1 _ _ hD'
   cases c:p a with
   | true =>
     rw[if_pos rfl]
     refine he a b _ _ ⟨_,hD2,AL ?_ (show 1000<sizeLine by decide),as.length - (i+1),by omega,hlt,rfl,put _ _ (e.trans s1),?_⟩
     . rw[Ad,Ad]
       have:=BN (fun x:Str×Str=>p x.1) ((as.zip bs).take i)
       rw[AG] at this
       omega
     . rw[aa,BY,hzi,CI,Az,Az]
       show _=some (HO.lst (_++((([(a,b)].filter fun x:Str×Str=>p x.1).map (·.2)).map V.str)))
       rw[FP (by exact c)];rfl
   | false =>
     rw[if_neg Am]
     refine⟨as.length - (i+1),by omega,hlt,rfl,e.trans s1,?_⟩
     rw[hD2,BY,hzi,CI]
     show _=some (HO.lst (((_++([(a,b)].filter fun x:Str×Str=>p x.1)).map (·.2)).map V.str))
     rw[FQ (by simp[c])];simp
 . have ei:i=as.length:=by omega
   subst ei
   have htk:(as.zip bs).take as.length=as.zip bs:=Bm (by rw[zl];exact Aj _)
   rw[htk] at hD'
   exact .inl ⟨⟨_,_,e.seqT h1,e.seqT h2,by rw[Ad];exact Aj _⟩,hQ D H hD e hD'⟩
theorem o6 {α β:Type}{l:List α}{g:α->List β}{i:Nat}{x:α}(h:l[i]? = some x):(l.take (i+1)).flatMap g=(l.take i).flatMap g++g x:=by
 rw[BY,h,EG];simp
theorem aaw {α β:Type}(l:List α) (g:α->List β) (i:Nat):((l.take i).flatMap g).length<=(l.flatMap g).length:=by
 have:l.flatMap g=(l.take i).flatMap g++(l.drop i).flatMap g:=by rw[<- EG,Ey]
 rw[this,Ag];exact Bu _ _
theorem a4g {α β:Type}{l:List α}{g:α->List β}{i:Nat}{x:α}(h:l[i]? = some x):((l.take i).flatMap g).length+(g x).length<=(l.flatMap g).length:=by
 have:=aaw l g (i+1)
 rw[o6 h,Ag] at this
 exact this
end L2
namespace K52
open PySem PySem.Spec L2 Mir
variable {P:Program}{w:World}{K:Ab}{mg:Str->Option Value}{base:Heap}{f g gS gN gA gW gI gL gF gO gT gB C fI CM CF fJ gD gR gU gM gH gE gC gK gX gP:Addr}{fd gd dS dN dA dW dI dL dF dO dT dB dD dR dU dM dH dE dC dK dX dP:FuncData}
noncomputable abbrev p8:Stmt:=top 15
noncomputable abbrev sAll:Stmt:=top 19
noncomputable abbrev wb:Stmt:=top 20
abbrev DeedS (K:Ab) (H:Hp) (t:Addr) (d:Deed):Prop:=DeedX K H (fun _ _=>True) t d
theorem DeedS.same {K:Ab}{H H':Hp}{t:Addr}{d:Deed}(h:DeedS K H t d) (e:Same H H'):DeedS K H' t d:=DeedX.same h e fun _ _ z=>z
noncomputable def allD (f:List Deed->List Deed) (d:Deed):List Deed:=d::(innL d).flatMap f
noncomputable def allL:List Nat->List Deed->List Deed
 | [],_=>[]
 | _::bs,ds=>ds.flatMap (allD (allL bs))
inductive spAll (K:Ab) (bs:List Nat) (vs:List V) (H:Hp) (Q:VK) (E:XK):Prop
 | mk (G:Hp) (l:Addr) (ds:List Deed) (h0:vs=[.ref l]) (e:Same G H) (h1:ListX K G bs l ds) (h4:(allL bs ds).length<=100)
     (q:∀fo us H',Same H H'->H fo=none->H' fo=some (.lst (us.map V.ref))->Paired (DeedS K G) us (allL bs ds)->Q (.ref fo) H'):spAll K bs vs H Q E
inductive AI (K:Ab) (bs:List Nat) (G H:Hp) (l fo:Addr) (ds:List Deed) (i:Nat) (σ:St) (H2:Hp):Prop
 | mk (us:List Addr) (z2 z3:Option V) (e:Same H H2) (hf:H2 fo=some (.lst (us.map V.ref))) (hp:Paired (DeedS K G) us ((ds.take i).flatMap (allD (allL bs)))) (hσ:σ=[some (.ref l),some (.ref fo),z2,z3])
inductive AJ (K:Ab) (bs:List Nat) (G H:Hp) (l fo ll:Addr) (as:List Addr) (pre:List Deed) (is:List (List Deed)) (v2:V) (j:Nat) (σ:St) (H2:Hp):Prop
 | mk (us:List Addr) (z3:Option V) (e:Same H H2) (hl:H2 ll=some (.lst (as.map V.ref))) (hf:H2 fo=some (.lst (us.map V.ref))) (hp:Paired (DeedS K G) us (pre++(is.take j).flatMap (allL bs))) (hσ:σ=[some (.ref l),some (.ref fo),some v2,z3])
theorem scListsIn:FnScope ["deed"] ["deed"] (aq p8):=⟨rfl,rfl,rfl,by decide +kernel,rfl,by decide +kernel,by decide +kernel⟩
theorem a0l (C:Con K mg w) (F:Fun K "lists_in" "lists_in" p8 f fd):FnOk P w K mg base CX0 1 f fd ["deed"] spLists:=by
 refine F.okQ scListsIn (fun vs H Q E h=>?_) (fun cdv A outer s0 H vs Q E hr h=>?_)
 . rcases h with⟨_,_,_,_,rfl,_⟩|⟨_,_,_,_,rfl,_⟩|⟨_,_,_,rfl,_⟩<;>rfl
 have nd:=scListsIn.nd
 rcases h with⟨t,i,o,c,rfl,h,q⟩|⟨t,i,c,d,rfl,h,q⟩|⟨t,w',vs',rfl,h,n1,n2,q⟩
 . refine⟨_,af (bf (ay bp (ah au (qv 0) ac (fun _ _=>rfl)) b6 (az _)) (ai (b0 (br (av (ah au (qv 0) ac (fun _ _=>rfl)) (av (ah au (qv 0) ac (fun _ _=>rfl)) ad))))) bo)
   (ai (b0 (gb (ay bp (ah au (qv 0) ac (fun _ _=>rfl)) b6 (az _)) (br (av (ah au (qv 0) ac (fun _ _=>rfl)) ad)) (br ad)))),?_⟩
   refine⟨_,rfl,t,_,0,_,rfl,rfl,SqT.of h,rfl,rfl,_,rfl,iteB (fun _=>?_) (fun c=>absurd c (by decide +kernel))⟩
   exact⟨_,rfl,t,_,2,_,rfl,rfl,SqT.of h,rfl,_,rfl,t,_,3,_,rfl,rfl,SqT.of h,rfl,(show 2<=sizeLine by decide),q⟩
 . refine⟨_,af (bf (ay bp (ah au (qv 0) ac (fun _ _=>rfl)) b6 (az _)) (ai (b0 (br (av (ah au (qv 0) ac (fun _ _=>rfl)) (av (ah au (qv 0) ac (fun _ _=>rfl)) ad))))) bo)
   (ai (b0 (gb (ay bp (ah au (qv 0) ac (fun _ _=>rfl)) b6 (az _)) (br (av (ah au (qv 0) ac (fun _ _=>rfl)) ad)) (br ad)))),?_⟩
   refine⟨_,rfl,t,_,0,_,rfl,rfl,SqT.of h,rfl,rfl,_,rfl,iteB (fun c=>absurd c (by decide +kernel)) (fun _=>?_)⟩
   refine⟨_,rfl,t,_,0,_,rfl,rfl,SqT.of h,rfl,rfl,_,rfl,iteB (fun _=>?_) (fun c=>absurd c (by decide +kernel))⟩
   exact⟨_,rfl,t,_,3,_,rfl,rfl,SqT.of h,rfl,(show 1<=sizeLine by decide),q⟩
 . refine⟨_,af (bf (ay bp (ah au (qv 0) ac (fun _ _=>rfl)) b6 (az _)) (ai (b0 (br (av (ah au (qv 0) ac (fun _ _=>rfl)) (av (ah au (qv 0) ac (fun _ _=>rfl)) ad))))) bo)
   (ai (b0 (gb (ay bp (ah au (qv 0) ac (fun _ _=>rfl)) b6 (az _)) (br (av (ah au (qv 0) ac (fun _ _=>rfl)) ad)) (br ad)))),?_⟩
   refine⟨_,rfl,t,_,0,_,rfl,rfl,SqT.of h,at0,rfl,_,rfl,iteB (fun c=>absurd (V.str.inj (of_decide_eq_true c)) n1) (fun _=>?_)⟩
   refine⟨_,rfl,t,_,0,_,rfl,rfl,SqT.of h,at0,rfl,_,rfl,iteB (fun c=>absurd (V.str.inj (of_decide_eq_true c)) n2) (fun _=>?_)⟩
   exact⟨A8 _,q⟩
theorem scAll:FnScope ["deeds","found","deed","inner"] ["deeds"] (aq sAll):=⟨rfl,rfl,rfl,by decide +kernel,rfl,by decide +kernel,by decide +kernel⟩
theorem a7u:FnOk P w K mg base CX0 1 f fd ["deeds"] (spAll K []) :=
 ⟨fun vs H Q E h=>by obtain⟨G,l,ds,_,_,h1,_⟩:=h;exact h1.elim,fun A outer s H args us vs Q E _ _ _ _ h=>by obtain⟨G,l,ds,_,_,h1,_⟩:=h;exact h1.elim⟩
theorem a8m {n b:Nat}{bs:List Nat}(C:Con K mg w) (F:Fun K "all_deeds" "all_deeds" sAll f fd) (GS:FnOk P w K mg base CX0 1 gS dS ["deed"] spLists) (cS:Cal K mg "lists_in" gS dS ["deed"]) (GR:FnOk P w K mg base CX0 (n+1) f fd ["deeds"] (spAll K bs)) (cR:Cal K mg "all_deeds" f fd ["deeds"]):FnOk P w K mg base CX0 (n+1+1) f fd ["deeds"] (spAll K (b::bs)):=by
 refine F.okQ scAll (fun vs H Q E h=>?_) (fun cdv A outer s0 H vs Q E hr h=>?_)
 . obtain⟨G,l,ds,rfl,_⟩:=h;rfl
 obtain⟨G,l,ds,rfl,eG,hLX,hcnt,q⟩:=h
 obtain⟨ts,hl',hp,htl⟩:=hLX
 have hl:=eG _ _ hl'
 have nd:=scAll.nd
 have hr1:=hr.mono (j:=1) (by omega)
 refine⟨_,af (aw (i:=1) nd rfl (Or.inl rfl) (br ad))
   (af (c8 AM rfl (fk (qv 0)) (b8 (i:=2) nd rfl (Or.inl rfl)) (af (bx (du (K:=K) rfl AW BA BB d0 (qv 1) (ak (qv 2) ad)))
   (ai (c8 AM rfl (fk (ar GS hr1 rfl cS.name cS.keep cS.bind .nil ap (ak (qv 2) ad))) (b8 (i:=3) nd rfl (Or.inl rfl)) (ai (bx (du (K:=K) rfl AW De Df j7 (qv 1) (b5 (ar GR hr rfl cR.name cR.keep cR.bind .nil ap (ak (qv 3) ad)) ad))))))))
   (ai (b0 (qv 1)))),?_⟩
 have hpl:=Ax hp
 have hcnt':(ds.flatMap (allD (allL bs))).length<=100:=hcnt
 refine⟨A8 _,fun fo hfo=>?_⟩
 have s1:=ag hfo (.lst [])
 have k1:(upd H fo (.lst [])) fo=some (.lst []):=aa
 generalize upd H fo (.lst [])=H1 at s1 k1 |-
 dsimp only[b7]
 refine ao (a:=tFor _ _ _) fun D1 hN1 hR1 hC1=>?_
 refine⟨_,rfl,l,rfl,⟨_,SqL.of (s1 _ _ hl)⟩,?_⟩
 refine gw (xs:=ts.map V.ref) (AI K bs G H l fo ds) ⟨[],none,none,s1,k1,.nil,rfl⟩ (fun i σ H' _ z=>by obtain⟨us,_,_,e,_⟩:=z;exact SqL.of (e _ _ hl)) ?_ ?_
 . rintro i x σ H2 hx ⟨us,z2,z3,e,hf,hpp,rfl⟩
   rw[Ai] at hx
   obtain⟨t,ht,rfl⟩:=AR.mp hx
   obtain⟨d,hd,hX⟩:=Paired.nth hp ht
   have hsz:=a4g (g:=allD (allL bs)) hd
   have htk:=o6 (g:=allD (allL bs)) hd
   have hdF:allD (allL bs) d=d::(innL d).flatMap (allL bs):=rfl
   rw[hdF,AD] at hsz
   have hul:=Ax hpp
   refine⟨_,rfl,(.inl ⟨rfl,_,SqL.of hf⟩),_,rfl,fo,_,_,rfl,rfl,hf,bu (by rw[Ad,hul];omega),?_⟩
   have k3:(upd H2 fo (.lst (us.map V.ref++[.ref t]))) fo=some (.lst ((us++[t]).map V.ref)):=by rw[aa,Az];rfl
   have e3:Same H (upd H2 fo (.lst (us.map V.ref++[.ref t]))):=fun b o z=>by rw[ae (aj z hfo)];exact e _ _ z
   have hp3:Paired (DeedS K G) (us++[t]) ((ds.take i).flatMap (allD (allL bs))++[d]):=Paired.snocP hpp (DeedX.same hX (Same.refl _) fun _ _ _=>trivial)
   generalize upd H2 fo (.lst (us.map V.ref++[.ref t]))=H3 at k3 e3 |-
   generalize us++[t]=us3 at k3 hp3
   dsimp only[b7]
   refine⟨_,rfl,a63 hX (eG.trans e3) rfl fun ll as hll hin=>?_⟩
   have s4:=ag hll (.lst (as.map V.ref))
   have k4:(upd H3 ll (.lst (as.map V.ref))) ll=some (.lst (as.map V.ref)):=aa
   have nll:ll≠fo:=(aj k3 hll).symm
   generalize upd H3 ll (.lst (as.map V.ref))=H4 at s4 k4 |-
   refine⟨ll,rfl,⟨_,SqL.of k4⟩,?_⟩
   refine gw (xs:=as.map V.ref) (AJ K bs G H l fo ll as ((ds.take i).flatMap (allD (allL bs))++[d]) (innL d) (.ref t)) ⟨us3,z3,e3.trans s4,k4,s4 _ _ k3,(by simpa using hp3),rfl⟩ (fun j σ H' _ z=>by obtain⟨_,_,_,h,_⟩:=z;exact SqL.of h) ?_ ?_
   . rintro j x σ H5 hx5 ⟨us5,y3,e5,hl5,hf5,hp5,rfl⟩
     rw[Ai] at hx5
     obtain⟨c,hc,rfl⟩:=AR.mp hx5
     obtain⟨a,ha,hLa⟩:=Paired.nth hin hc
     have hszj:=a4g (g:=allL bs) ha
     have hul5:=Ax hp5
     rw[Ag,Ag] at hul5
     have h1:[d].length=1:=rfl
     refine⟨_,rfl,(.inl ⟨rfl,_,SqL.of hf5⟩),_,rfl,G,c,a,rfl,eG.trans e5,hLa,(by omega),fun fo' us' H6 e6 _ k6 hp6=>?_⟩
     have hul6:=Ax hp6
     have hf6:=e6 _ _ hf5
     refine⟨fo,fo',_,_,rfl,rfl,hf6,k6,bi (by rw[Ad,Ad,hul5,hul6];omega),?_⟩
     refine⟨us5++us',_,fun b o z=>by rw[ae (aj z hfo)];exact e6 _ _ (e5 _ _ z),by rw[ae nll];exact e6 _ _ hl5,by rw[aa,Az],?_,rfl⟩
     rw[o6 (g:=allL bs) ha,<- Ci]
     exact Paired.app hp5 hp6
   . rintro σ H5 ⟨us5,y3,e5,hl5,hf5,hp5,rfl⟩
     refine⟨us5,_,_,e5,hf5,?_,rfl⟩
     have:(innL d).take (as.map V.ref).length=innL d:=Bm (by rw[Ad,Ax hin];exact Aj _)
     rw[this] at hp5
     rw[htk,hdF,<- Gw,<- Ci]
     exact hp5
 rintro σ H2 ⟨us,z2,z3,e,hf,hpp,rfl⟩
 have:ds.take (ts.map V.ref).length=ds:=Bm (by rw[Ad,hpl];exact Aj _)
 rw[this] at hpp
 exact hN1 _ _ ⟨_,rfl,q fo us H2 e hfo hf hpp⟩
noncomputable abbrev pj:Stmt:=top 21
noncomputable abbrev ph:Stmt:=top 22
noncomputable def kc (x:Str):Bool := !decide (V.str x=V.str "field")
noncomputable def kr (h:Str) (r:List Str):List Str:=match forms.lookup h with
 | some fs=>zipF kc fs r
 | none=>[]
noncomputable def wrdP:Pl->List Str
 | .row (h::r)=>kr h r
 | .row []=>[]
 | .call x _ vs=>x::vs
noncomputable def wrd:Deed->List Str
 | .plain p=>wrdP p
 | .cond r _ _=>r.drop 1
 | .loop r F P _=>r.drop 1++words (F++P)
structure TOk (xs:List Str) (F P:List (List Str)):Prop where
 f:j8 F
 p:j8 P
 ne:∀r∈F++P,r≠[]
 sub:∀y∈words (F++P),y∈xs
structure ROk (r:List Str):Prop where
 len:r.length=3
 sh:∀y∈r,Short y
noncomputable def DOk (xs:List Str):Deed->Prop
 | .plain (.row r)=>∀y∈r,Short y
 | .plain (.call x c vs)=>Short x/\vs.length<=8/\∀y∈vs,Short y
 | .cond r _ _=>ROk r
 | .loop r F P _=>ROk r/\TOk xs F P
theorem TOk.few {xs:List Str}{F P:List (List Str)}(h:TOk xs F P) (hx:xs.length<=20) {ss:List Str}(hn:ss.Nodup) (hs:∀y∈ss,y∈words (F++P)):ss.length<=20:=A0 (Bg hn fun y hy=>h.sub y (hs y hy)) hx
theorem oa:∀{rs:List (List Str)}{y:Str},(∀r∈rs,∀x∈r,Short x)->y∈words rs->Short y:=fun {rs y} h hy=>by
 unfold words at hy
 obtain⟨l,hl,hy⟩:=List.mem_flatten.mp hy
 obtain⟨r,hr,rfl⟩:=A9.mp hl
 exact h r hr y (CU (Dm.mp hy).1)
inductive spWords (K:Ab) (vs:List V) (H:Hp) (Q:VK) (E:XK):Prop
 | mk (t:Addr) (d:Deed) (xs:List Str) (h0:vs=[.ref t]) (h1:DeedS K H t d) (h2:DOk xs d) (h3:xs.length<=20)
     (q:∀(l:Addr) (ws:List Str) (H':Hp),Same H H'->H' l=some (.lst (ws.map V.str))->(∀y,y∈ws↔y∈wrd d)->ws.length<=30->Q (.ref l) H'):spWords K vs H Q E
theorem lg:(forms.map (·.1)).Nodup:=by decide +kernel
theorem a1s:∀x∈forms,x.2.length<=3:=by decide +kernel
theorem iw {β:Type}:∀{l:List (Str×β)}{h:Str}{b:β},(l.map (·.1)).Nodup->(h,b)∈l->l.lookup h=some b
 | [],_,_,_,hm=>by cases hm
 | (k,c)::l,h,b,hn,hm=>by
   rw[AC,AX] at hn
   by_cases e:h=k
   . subst e
     rcases Aq.mp hm with z|z
     . cases z;rw[List.lookup_cons_self]
     . exact absurd (A9.mpr ⟨_,z,rfl⟩) hn.1
   . rcases Aq.mp hm with z|z
     . cases z;exact absurd rfl e
     . rw[CA]
       have:(h == k)=false:=beq_false_of_ne e
       rw[this];exact iw hn.2 z
theorem a53 (p:Str->Bool) (as bs:List Str):(zipF p as bs).length<=as.length:=by
 unfold zipF
 rw[Ad]
 have:=BN (fun x:Str×Str=>p x.1) (as.zip bs)
 rw[Dr] at this
 omega
theorem scWords:FnScope ["deed"] ["deed"] (aq wb):=⟨rfl,rfl,rfl,by decide +kernel,rfl,by decide +kernel,by decide +kernel⟩
theorem yd (C:Con K mg w) (F:Fun K "words_of" "words_of" wb f fd) (GN:FnOk P w K mg base CX0 1 gN dN ["telling"] (rp K)) (cN:Cal K mg "names_of" gN dN ["telling"]):FnOk P w K mg base CX0 2 f fd ["deed"] (spWords K):=by
 refine F.okQ scWords (fun vs H Q E h=>?_) (fun cdv A outer s0 H vs Q E hr h=>?_)
 . obtain⟨t,d,xs,rfl,_⟩:=h;rfl
 obtain⟨t,d,xs,rfl,hX,hok,hxs,q⟩:=h
 have nd:=scWords.nd
 obtain⟨aF,tsF,gF,kF,nF,rF⟩:=C.forms
 refine⟨_,af (bf (ay bp (ah au (qv 0) ac (fun _ _=>rfl)) b6 (az _)) (ai (b0 (ax gi (br (av (ah au (qv 0) ac (fun _ _=>rfl)) ad)) (be dh rfl C.list BF (av (ah au (qv 0) ac (fun _ _=>rfl)) ad))))) bo)
   (af (bf (ay bp (ah au (qv 0) ac (fun _ _=>rfl)) b6 (az _)) (ai (b0 (be dh rfl C.list BF (av (c4 gt (ah au (qv 0) ac (fun _ _=>rfl)) (cb ac) ca) ad)))) bo)
   (af (bf (ay bp (ah au (qv 0) ac (fun _ _=>rfl)) b6 (az _)) (ai (b0 (ax gi (be dh rfl C.list BF (av (c4 gt (ah au (qv 0) ac (fun _ _=>rfl)) (cb ac) ca) ad)) (ar GN hr rfl cN.name cN.keep cN.bind .nil ap (av (ah au (qv 0) ac (fun _ _=>rfl)) ad))))) bo)
   (ai (b0 (a1u (K:=K) rfl ["sort","word"] [] (zu rfl C.zip (av (a8b (K:=K) (w:=w) rfl rfl (qe_g gF) (ah au (qv 0) ac (fun _ _=>rfl)) (fun _ _=>rfl)) (av (c4 gt (qv 0) (cb ac) ca) ad))) (fun _ _ _ _=>(sd (ay kx (qv 0) b6 (az _)))) (fun _ _ _ _=>(qv 1))))))),?_⟩
 cases hX with
 | plain p h1 h2 =>
   cases p with
   | call x c vs =>
     obtain⟨v,hv1,hv2⟩:=h1
     obtain⟨ox,ol,ov⟩:=hok
     refine⟨_,rfl,t,_,0,_,rfl,rfl,SqT.of hv1,rfl,rfl,_,rfl,iteB (fun _=>?_) (fun c=>absurd c (by decide +kernel))⟩
     refine⟨_,rfl,t,_,1,_,rfl,rfl,SqT.of hv1,rfl,(show 1<=sizeLine by decide),fun l1 hl1=>?_⟩
     have s1:=ag hl1 (.lst [.str x])
     have k1:(upd H l1 (.lst [.str x])) l1=some (.lst [.str x]):=aa
     generalize upd H l1 (.lst [.str x])=H1 at s1 k1 |-
     refine⟨_,rfl,t,_,3,_,rfl,rfl,SqT.of (s1 _ _ hv1),rfl,v,_,rfl,.inr (SqT.of (s1 _ _ hv2)),fun l2 hl2=>?_⟩
     have s2:=ag hl2 (.lst (vs.map V.str))
     refine⟨l1,l2,_,_,rfl,rfl,s2 _ _ k1,aa,bi (by rw[Ad];show 1+_<=1000;omega),fun l3 hl3=>?_⟩
     have s3:=ag hl3 (.lst ([V.str x]++vs.map V.str))
     exact q l3 (x::vs) _ ((s1.trans s2).trans s3) aa (fun y=>IR) (by rw[AD];omega)
   | row r =>
     obtain⟨⟨h,r',fs,rfl,hf,hl⟩,okr⟩:=h2
     have h1':H t=some (.tup (.str h::r'.map V.str)):=h1
     obtain⟨n1,n2,n3⟩:=qb _ hf
     have hf3:fs.length<=3:=a1s _ hf
     refine⟨_,rfl,t,_,0,_,rfl,rfl,SqT.of h1',at0,rfl,_,rfl,iteB (fun c=>absurd (V.str.inj (of_decide_eq_true c)) n3) (fun _=>?_)⟩
     refine⟨_,rfl,t,_,0,_,rfl,rfl,SqT.of h1',at0,rfl,_,rfl,iteB (fun c=>absurd (V.str.inj (of_decide_eq_true c)) n1) (fun _=>?_)⟩
     refine⟨_,rfl,t,_,0,_,rfl,rfl,SqT.of h1',at0,rfl,_,rfl,iteB (fun c=>absurd (V.str.inj (of_decide_eq_true c)) n2) (fun _=>?_)⟩
     obtain⟨tf,htf,hsq⟩:∃tf,(tsF.map fun x=>(x.1,V.ref x.2)).lookup h=some (.ref tf)/\∀H',SqT K H' tf (fs.map V.str):=by
       have hm:h∈tsF.map (·.1):=by rw[nF];exact A9.mpr ⟨_,hf,rfl⟩
       obtain⟨⟨h',tf⟩,hin,rfl⟩:=A9.mp hm
       refine⟨tf,iw ?_ (A9.mpr ⟨_,hin,rfl⟩),rF _ _ _ hin hf⟩
       rw[BO]
       show (tsF.map (·.1)).Nodup
       rw[nF];exact lg
     refine⟨_,rfl,t,_,0,_,rfl,rfl,SqT.of h1',at0,aF,_,h,_,rfl,rfl,kF,htf,?_⟩
     refine⟨_,rfl,_,rfl,t,_,rfl,SqT.of h1',fun p1 H1 e1 k1=>?_⟩
     have hc:cutV (V.str h::r'.map V.str) (some 1) none=r'.map V.str:=by
       have:=ij (r:=h::r') (k:=1);simpa using this
     rw[show cutV (V.str h::r'.map V.str) (some (1:Int)) none=r'.map V.str from hc] at k1
     refine⟨tf,p1,_,_,rfl,hsq _,k1,?_⟩
     refine a3v fs r' kc (hsq _) k1 hl (by omega) (fun a b H2 Q' q'=>⟨_,rfl,rfl,_,rfl,q'⟩) (fun a b H2 Q' q'=>⟨_,rfl,q'⟩) (fun D H' hD e' hD'=>?_)
     refine q D _ H' (e1.trans e') hD' (fun y=>?_) (A0 (a53 _ _ _) (by omega))
     show _↔y∈kr h r'
     unfold kr
     rw[iw lg hf]
 | cond c i o r a b h hc okr hi ho =>
   refine⟨_,rfl,t,_,0,_,rfl,rfl,SqT.of h,rfl,rfl,_,rfl,iteB (fun c=>absurd c (by decide +kernel)) (fun _=>?_)⟩
   refine⟨_,rfl,t,_,0,_,rfl,rfl,SqT.of h,rfl,rfl,_,rfl,iteB (fun _=>?_) (fun c=>absurd c (by decide +kernel))⟩
   have hlen:r.length=3:=ROk.len hok
   refine⟨_,rfl,t,_,1,_,rfl,rfl,SqT.of h,rfl,_,rfl,c,_,rfl,SqT.of hc,fun p1 H1 e1 k1=>?_⟩
   rw[show cutV (r.map V.str) (some (1:Int)) none=(r.drop 1).map V.str from ij (r:=r) (k:=1)] at k1
   refine⟨p1,_,rfl,.inr k1,fun l hl=>?_⟩
   exact q l (r.drop 1) _ (e1.trans (ag hl _)) aa (fun y=>IR) (by rw[Be];omega)
 | loop c td i fa pa r F' P' a h hc okr htd hF hP okF okP lF lP hi =>
   obtain⟨hr',hT⟩:=hok
   have hlen:r.length=3:=ROk.len hr'
   refine⟨_,rfl,t,_,0,_,rfl,rfl,SqT.of h,rfl,rfl,_,rfl,iteB (fun c=>absurd c (by decide +kernel)) (fun _=>?_)⟩
   refine⟨_,rfl,t,_,0,_,rfl,rfl,SqT.of h,rfl,rfl,_,rfl,iteB (fun c=>absurd c (by decide +kernel)) (fun _=>?_)⟩
   refine⟨_,rfl,t,_,0,_,rfl,rfl,SqT.of h,rfl,rfl,_,rfl,iteB (fun _=>?_) (fun c=>absurd c (by decide +kernel))⟩
   refine⟨_,rfl,t,_,1,_,rfl,rfl,SqT.of h,rfl,_,rfl,c,_,rfl,SqT.of hc,fun p1 H1 e1 k1=>?_⟩
   rw[show cutV (r.map V.str) (some (1:Int)) none=(r.drop 1).map V.str from ij (r:=r) (k:=1)] at k1
   refine⟨p1,_,rfl,.inr k1,fun l hl=>?_⟩
   have s2:=ag hl (.lst ((r.drop 1).map V.str))
   have k2:(upd H1 l (.lst ((r.drop 1).map V.str))) l=some (.lst ((r.drop 1).map V.str)):=aa
   generalize upd H1 l (.lst ((r.drop 1).map V.str))=H2 at s2 k2 |-
   have e2:=e1.trans s2
   refine⟨_,rfl,t,_,2,_,rfl,rfl,SqT.of (e2 _ _ h),rfl,td,F',P',rfl,⟨[fa,pa],SqT.of (e2 _ _ htd),.cons (hF.same e2) (.cons (hP.same e2) .nil)⟩,hT.f,hT.p,hT.ne,fun ss hn hs=>AL (hT.few hxs hn hs) (by decide),fun p zs H3 hp e3 k3 hzn hzm hzs=>?_⟩
   have hzl:=hT.few hxs hzn fun y hy=>(hzm y).mp hy
   refine⟨l,p,_,_,rfl,rfl,e3 _ _ k2,k3,bi (by rw[Ad,Ad,Be];omega),fun l4 hl4=>?_⟩
   have s4:=ag hl4 (.lst ((r.drop 1).map V.str++zs.map V.str))
   refine q l4 (r.drop 1++zs) _ ((e2.trans e3).trans s4) (by rw[aa,Az]) (fun y=>?_) (by rw[Ag,Be];omega)
   show _↔y∈r.drop 1++words (F'++P')
   rw[Al,Al,hzm y]
noncomputable def allW (bs:List Nat) (p:Prc):List Str:=p.ps++[p.res]++words (p.F1++p.P1)++words (p.F2++p.P2)++(allL bs p.body).flatMap wrd
structure PrcOk (bs:List Nat) (xs:List Str) (p:Prc):Prop where
 ps:p.ps.length<=8/\∀y∈p.ps,Short y
 res:Short p.res
 t1:TOk xs p.F1 p.P1
 t2:TOk xs p.F2 p.P2
 ds:∀d∈allL bs p.body,DOk xs d
 few:(allL bs p.body).length<=30
 len:xs.length<=20
 names:∀y∈allW bs p,b9 y=true->y∈xs
theorem a50 {h:Str}{r:List Str}{y:Str}(hy:y∈kr h r):y∈r:=by
 unfold kr at hy
 cases e:forms.lookup h with
 | none=>rw[e] at hy;cases hy
 | some fs =>
   rw[e] at hy
   obtain⟨⟨a,b⟩,h1,rfl⟩:=A9.mp hy
   exact (E6 (Dm.mp h1).1).2
theorem DOk.short {xs:List Str}{d:Deed}(h:DOk xs d) {y:Str}(hy:y∈wrd d):Short y:=by
 cases d with
 | plain p =>
   cases p with
   | row r =>
     cases r with
     | nil=>cases hy
     | cons h' r=>exact h y (An _ (a50 hy))
   | call x c vs =>
     obtain⟨h1,_,h3⟩:=h
     rcases Aq.mp hy with rfl|z
     . exact h1
     . exact h3 y z
 | cond r a b=>exact ROk.sh h y (CU hy)
 | loop r F P a =>
   obtain⟨h1,h2⟩:=h
   rcases Al.mp hy with z|z
   . exact h1.sh y (CU z)
   . refine oa (fun r hr=>?_) z
     rcases Al.mp hr with z|z
     . exact (h2.f.2 r z).2
     . exact (h2.p.2 r z).2
theorem TOk.short {xs:List Str}{F P:List (List Str)}(h2:TOk xs F P) {y:Str}(hy:y∈words (F++P)):Short y:=by
 refine oa (fun r hr=>?_) hy
 rcases Al.mp hr with z|z
 . exact (h2.f.2 r z).2
 . exact (h2.p.2 r z).2
theorem a0f {bs:List Nat}{xs:List Str}{p:Prc}(h:PrcOk bs xs p) {y:Str}(hy:y∈allW bs p):Short y:=by
 unfold allW at hy
 simp only[Al,As] at hy
 rcases hy with (((z|z)|z)|z)|z
 . exact h.ps.2 y z
 . rw[z];exact h.res
 . exact h.t1.short z
 . exact h.t2.short z
 . obtain⟨d,hd,hy⟩:=Dg.mp z
   exact (h.ds d hd).short hy
inductive spNamesIn (K:Ab) (bs:List Nat) (vs:List V) (H:Hp) (Q:VK) (E:XK):Prop
 | mk (G:Hp) (t:Addr) (p:Prc) (xs:List Str) (h0:vs=[.ref t]) (e:Same G H) (h1:PrcAt K G bs t p) (h2:PrcOk bs xs p)
     (q:∀(l:Addr) (zs:List Str) (H':Hp),Same H H'->H l=none->H' l=some (.lst (zs.map V.str))->zs.Nodup->DK zs=true->(∀y,y∈zs↔b9 y=true/\y∈allW bs p)->Q (.ref l) H'):spNamesIn K bs vs H Q E
inductive NI (H:Hp) (t lo fo:Addr) (us:List Addr) (ds:List Deed) (pre:List Str) (i:Nat) (σ:St) (H2:Hp):Prop
 | mk (ws:List Str) (z2:Option V) (e:Same H H2) (hl:H2 lo=some (.lst (us.map V.ref))) (hf:H2 fo=some (.lst (ws.map V.str))) (hm:∀y,y∈ws↔y∈pre++(ds.take i).flatMap wrd) (hw:ws.length<=60+30*i) (hσ:σ=[some (.ref t),some (.ref fo),z2])
theorem scNamesIn:FnScope ["procedure","words","deed"] ["procedure"] (aq pj):=⟨rfl,rfl,rfl,by decide +kernel,rfl,by decide +kernel,by decide +kernel⟩
theorem a0a {n:Nat}{bs:List Nat}(hn1:1<=n) (C:Con K mg w) (F:Fun K "names_in" "names_in" pj f fd) (GN:FnOk P w K mg base CX0 1 gN dN ["telling"] (rp K)) (cN:Cal K mg "names_of" gN dN ["telling"]) (GA:FnOk P w K mg base CX0 (n+1) gA dA ["deeds"] (spAll K bs)) (cA:Cal K mg "all_deeds" gA dA ["deeds"]) (GW:FnOk P w K mg base CX0 2 gW dW ["deed"] (spWords K)) (cW:Cal K mg "words_of" gW dW ["deed"]) (GI:FnOk P w K mg base CX0 1 gI dI ["text"] (spB1 b9)) (cI:Cal K mg "is_name" gI dI ["text"]):FnOk P w K mg base CX0 (n+1+1) f fd ["procedure"] (spNamesIn K bs):=by
 refine F.okQ scNamesIn (fun vs H Q E h=>?_) (fun cdv A outer s0 H vs Q E hr h=>?_)
 . obtain⟨G,t,p,xs,rfl,_⟩:=h;rfl
 obtain⟨G,t,p,xs,rfl,eG,⟨pt,t1,t2,f1,p1,f2,p2,bd,x⟩,ok,q⟩:=h
 have nd:=scNamesIn.nd
 have hr1:=hr.mono (j:=1) (by omega)
 have hr2:=hr.mono (j:=2) (by omega)
 refine⟨_,af (aw (i:=1) nd rfl (Or.inl rfl) (ax gi (ax gi (ax gi (be dh rfl C.list BF (av (ah au (qv 0) ac (fun _ _=>rfl)) ad)) (br (av (ah au (qv 0) ac (fun _ _=>rfl)) ad))) (ar GN hr1 rfl cN.name cN.keep cN.bind .nil ap (av (ah au (qv 0) ac (fun _ _=>rfl)) ad))) (ar GN hr1 rfl cN.name cN.keep cN.bind .nil ap (av (ah au (qv 0) ac (fun _ _=>rfl)) ad))))
   (af (c8 AM rfl (fk (ar GA hr rfl cA.name cA.keep cA.bind .nil ap (av (ah au (qv 0) ac (fun _ _=>rfl)) ad))) (b8 (i:=2) nd rfl (Or.inl rfl)) (ai (bx (du (K:=K) rfl AW De Df j7 (qv 1) (b5 (ar GW hr2 rfl cW.name cW.keep cW.bind .nil ap (ak (qv 2) ad)) ad)))))
   (ai (b0 (bc (jb rfl) rfl C.sorted Ea (b5 (be (wc rfl) rfl C.set GG (cg (im (fk (qv 1)) (fun _ _ _ _=>(sd (ir (ar GI hr1 rfl cI.name cI.keep cI.bind .nil ap (ak (qv 0) ad))))) (fun _ _ _ _=>(qv 0))) ad)) ad))))),?_⟩
 have tp:=eG _ _ x.tup
 refine⟨_,rfl,t,_,1,_,rfl,rfl,SqT.of tp,rfl,pt,_,rfl,.inr (SqT.of (eG _ _ x.pt)),fun l1 hl1=>?_⟩
 have s1:=ag hl1 (.lst (p.ps.map V.str))
 have k1:(upd H l1 (.lst (p.ps.map V.str))) l1=some (.lst (p.ps.map V.str)):=aa
 generalize upd H l1 (.lst (p.ps.map V.str))=H1 at s1 k1 |-
 refine⟨_,rfl,t,_,2,_,rfl,rfl,SqT.of (s1 _ _ tp),rfl,(show 1<=sizeLine by decide),fun l2 hl2=>?_⟩
 have s2':=ag hl2 (.lst [.str p.res])
 have k2:(upd H1 l2 (.lst [.str p.res])) l2=some (.lst [.str p.res]):=aa
 generalize upd H1 l2 (.lst [.str p.res])=H2 at s2' k2 |-
 have s2:=s1.trans s2'
 have hps:=ok.ps.1
 refine⟨l1,l2,_,_,rfl,rfl,s2' _ _ k1,k2,bi (by rw[Ad];show _+1<=1000;omega),fun l3 hl3=>?_⟩
 have s3':=ag hl3 (.lst (p.ps.map V.str++[.str p.res]))
 have k3:(upd H2 l3 (.lst (p.ps.map V.str++[.str p.res]))) l3=some (.lst ((p.ps++[p.res]).map V.str)):=by rw[aa,Az];rfl
 generalize upd H2 l3 (.lst (p.ps.map V.str++[.str p.res]))=H3 at s3' k3 |-
 have s3:=s2.trans s3'
 have g3:=eG.trans s3
 refine⟨_,rfl,t,_,3,_,rfl,rfl,SqT.of (s3 _ _ tp),rfl,t1,p.F1,p.P1,rfl,⟨[f1,p1],SqT.of (g3 _ _ x.t1),.cons (x.f1.same g3) (.cons (x.p1.same g3) .nil)⟩,ok.t1.f,ok.t1.p,ok.t1.ne,fun ss hn hs=>AL (ok.t1.few ok.len hn hs) (by decide),fun q4 z4 H4 hq4 e4' k4 hzn hzm _=>?_⟩
 have hz4:=ok.t1.few ok.len hzn fun y hy=>(hzm y).mp hy
 have e4:=s3.trans e4'
 refine⟨l3,q4,_,_,rfl,rfl,e4' _ _ k3,k4,bi (by rw[Ad,Ad,Ag];show _+1+_<=1000;omega),fun l5 hl5=>?_⟩
 have s5':=ag hl5 (.lst ((p.ps++[p.res]).map V.str++z4.map V.str))
 have k5:(upd H4 l5 (.lst ((p.ps++[p.res]).map V.str++z4.map V.str))) l5=some (.lst ((p.ps++[p.res]++z4).map V.str)):=by rw[aa,Az (l₁:=p.ps++[p.res])]
 generalize upd H4 l5 (.lst ((p.ps++[p.res]).map V.str++z4.map V.str))=H5 at s5' k5 |-
 have s5:=e4.trans s5'
 have g5:=eG.trans s5
 refine⟨_,rfl,t,_,4,_,rfl,rfl,SqT.of (s5 _ _ tp),rfl,t2,p.F2,p.P2,rfl,⟨[f2,p2],SqT.of (g5 _ _ x.t2),.cons (x.f2.same g5) (.cons (x.p2.same g5) .nil)⟩,ok.t2.f,ok.t2.p,ok.t2.ne,fun ss hn hs=>AL (ok.t2.few ok.len hn hs) (by decide),fun q6 z6 H6 hq6 e6' k6 hyn hym _=>?_⟩
 have hz6:=ok.t2.few ok.len hyn fun y hy=>(hym y).mp hy
 have e6:=s5.trans e6'
 refine⟨l5,q6,_,_,rfl,rfl,e6' _ _ k5,k6,bi (by rw[Ad,Ad,Ag,Ag];show _+1+_+_<=1000;omega),fun fo hfo=>?_⟩
 have s7':=ag hfo (.lst ((p.ps++[p.res]++z4).map V.str++z6.map V.str))
 have k7:(upd H6 fo (.lst ((p.ps++[p.res]++z4).map V.str++z6.map V.str))) fo=some (.lst ((p.ps++[p.res]++z4++z6).map V.str)):=by rw[aa,Az (l₁:=p.ps++[p.res]++z4)]
 have fo0:H fo=none:=e6.free hfo
 generalize upd H6 fo (.lst ((p.ps++[p.res]++z4).map V.str++z6.map V.str))=H7 at s7' k7 |-
 have s7:=e6.trans s7'
 have hpre:∀y,y∈p.ps++[p.res]++z4++z6↔y∈p.ps++[p.res]++words (p.F1++p.P1)++words (p.F2++p.P2):=fun y=>by
   simp only[Al,hzm y,hym y]
 have hprl:(p.ps++[p.res]++z4++z6).length<=60:=by
   rw[Ag,Ag,Ag];show _+1+_+_<=60;omega
 generalize p.ps++[p.res]++z4++z6=w0 at k7 hpre hprl
 clear hzm hym hzn hyn hz4 hz6 k6 k5 k4 k3 k2 k1 s7' s5' s3' s2' s2 s3 s5 e4 e6 g3 g5 e4' e6' hl1 hl2 hl3 hl5 hq4 hq6 s1
 dsimp only[b7]
 refine ao (a:=tFor _ _ _) fun D1 hN1 hR1 hC1=>?_
 refine⟨_,rfl,t,_,5,_,rfl,rfl,SqT.of (s7 _ _ tp),rfl,G,bd,p.body,rfl,eG.trans s7,x.body,A0 ok.few (by decide),fun lo us H8 e8 hlo k8 hus=>?_⟩
 have hlf:lo≠fo:=(aj k7 hlo).symm
 have hul:=Ax hus
 have hfew:=ok.few
 refine⟨lo,rfl,⟨_,SqL.of k8⟩,?_⟩
 refine gw (xs:=us.map V.ref) (NI H t lo fo us (allL bs p.body) (p.ps++[p.res]++words (p.F1++p.P1)++words (p.F2++p.P2))) ⟨w0,none,s7.trans e8,k8,e8 _ _ k7,fun y=>by rw[hpre y];simp,by omega,rfl⟩ (fun i σ H' _ z=>by obtain⟨_,_,_,h,_⟩:=z;exact SqL.of h) ?_ ?_
 . rintro i y σ H9 hy ⟨ws,z2,e9,hl9,hf9,hm9,hw9,rfl⟩
   rw[Ai] at hy
   obtain⟨u,hu,rfl⟩:=AR.mp hy
   obtain⟨d,hd,hX⟩:=Paired.nth hus hu
   have hi30:i<30:=by have:=(Ao.mp hd).1;omega
   refine⟨_,rfl,(.inl ⟨rfl,_,SqL.of hf9⟩),_,rfl,u,d,xs,rfl,DeedS.same hX (eG.trans e9),ok.ds d (Ar hd),ok.len,fun lw vs Ha ea ka hva hla=>?_⟩
   have hfa:=ea _ _ hf9
   refine⟨fo,lw,_,_,rfl,rfl,hfa,ka,bi (by rw[Ad,Ad];omega),?_⟩
   refine⟨ws++vs,_,fun b o z=>by rw[ae (aj z fo0)];exact ea _ _ (e9 _ _ z),by rw[ae hlf];exact ea _ _ hl9,by rw[aa,Az],fun y=>?_,by rw[Ag];omega,rfl⟩
   rw[o6 (g:=wrd) hd,Al,<- Ci,Al,hm9 y,hva y]
 rintro σ H9 ⟨ws,z2,e9,hl9,hf9,hm9,hw9,rfl⟩
 rw[Ad,hul,Bv] at hm9
 rw[Ad,hul] at hw9
 have hall:∀y,y∈ws↔y∈allW bs p:=hm9
 refine hN1 _ _ ?_
 clear hN1 hR1 hC1
 refine⟨_,rfl,fo,rfl,⟨_,SqL.of hf9⟩,?_⟩
 refine r8 ws b9 i7 (SqL.of hf9) (by omega) (fun y hy H2 e2 Q' q'=>⟨_,rfl,y,rfl,a0f ok ((hall y).mp hy),fun H3 e3=>⟨_,rfl,q' H3 e3⟩⟩) (fun y H2 Q' q'=>⟨_,rfl,q'⟩) (fun D Ha hD ea kD=>?_)
 have hfl:=BN b9 ws
 have hwl:ws.length<=1000:=by omega
 refine⟨D,_,rfl,SqL.of kD,?_,fun ps ss hps' hdd=>?_⟩
 . exact AL (IB (A0 hfl hwl)) (by decide)
 have ssub:∀y∈ss,y∈xs:=fun y hy=>by
   obtain⟨h1,h2⟩:=Dm.mp ((hdd.mem y).mp hy)
   exact ok.names y ((hall y).mp h1) h2
 have hsl:ss.length<=20:=A0 (Bg hdd.nodup ssub) ok.len
 refine⟨ps,ss,rfl,aa,(by omega),fun l zs hl hperm hs=>?_⟩
 have hl0:=(ag hps' _).free hl
 refine q l zs _ (((e9.trans ea).trans (ag hps' _)).trans (ag hl _)) ((e9.trans ea).free hl0) aa (hperm.nodup_iff.mpr hdd.nodup) hs fun y=>?_
 rw[hperm.mem_iff,hdd.mem y,Dm,hall y]
 exact And.comm
end K52
namespace L2
open PySem PySem.Spec
theorem a01 (ys zs:List V) {m:Nat}(hz:zs.length=m) (hm:0<m):cutV (ys++zs) none (some (-(m:Int)))=ys:=by
 unfold cutV
 rw[HT.sIx_none,Cr,DX]
 have:HT.sIx (ys++zs).length (ys++zs).length (some (-(m:Int)))=ys.length:=by
   show (if -(m:Int)<0 then (-(m:Int)+((ys++zs).length:Int)).toNat else _)=_
   rw[if_pos (by omega),Ag]
   omega
 rw[this,List.take_left]
end L2
namespace K52
open PySem PySem.Spec L2 Mir
variable {P:Program}{w:World}{K:Ab}{mg:Str->Option Value}{base:Heap}{f g gS gN gA gW gI gL gF gO gT gB C fI CM CF fJ gD gR gU gM gH gE gC gK gX gP:Addr}{fd gd dS dN dA dW dI dL dF dO dT dB dD dR dU dM dH dE dC dK dX dP:FuncData}
noncomputable abbrev sf:Stmt:=top 24
noncomputable abbrev w6:Stmt:=top 25
theorem pick {l:List Addr}{k:Nat}(h:k<l.length):∃b,l[k]? = some b/\atI (l.map V.ref) (k:Int)=some (.ref b)/\b∈l :=
 ⟨l[k],Af h,bn (by rw[Ai,Af h];rfl),Dc _⟩
abbrev Pre:=List (Nat×Nat)
noncomputable def flat:Pre->List Int
 | []=>[]
 | (a,b)::p=>(a:Int)::(b:Int)::flat p
theorem l9:∀p:Pre,(flat p).length=2*p.length
 | []=>rfl
 | (a,b)::p=>by show (flat p).length+1+1=_;rw[l9 p,AD];omega
theorem x9:∀p q:Pre,flat (p++q)=flat p++flat q
 | [],_=>rfl
 | (a,b)::p,q=>by show _::_::flat (p++q)=_;rw[x9 p q];rfl
theorem a00:∀{p:Pre}{z:List Int}{i a b:Nat},p[i]? = some (a,b)->(flat p++z)[2*i]? = some (a:Int)/\(flat p++z)[2*i+1]? = some (b:Int)
 | [],_,_,_,_,h=>by cases h
 | (x,y)::p,z,0,a,b,h=>by cases h;exact⟨rfl,rfl⟩
 | (x,y)::p,z,i+1,a,b,h=>a00 (p:=p) (i:=i) h
inductive Side (H:Hp) (t:Addr) (s:Nat) (m:Addr):Prop
 | cond (i o:Addr) (c:V) (h:H t=some (.tup [.str "if",c,.ref i,.ref o])) (hs:(s=0/\m=i)\/(s=1/\m=o))
 | loop (c d:V) (h:H t=some (.tup [.str "while",c,d,.ref m])) (hs:s=0)
noncomputable def LFrom (H:Hp):Addr->Pre->Addr->Prop
 | l,[],l'=>l=l'
 | l,(k,s)::p,l'=>∃(ts:List Addr) (t m:Addr),H l=some (.lst (ts.map V.ref))/\ts[k]? = some t/\Side H t s m/\LFrom H m p l'
theorem Side.same {H H':Hp}{t m:Addr}{s:Nat}(h:Side H t s m) (e:Same H H'):Side H' t s m:=by
 rcases h with⟨i,o,c,h,hs⟩|⟨c,d,h,hs⟩
 . exact .cond i o c (e _ _ h) hs
 . exact .loop c d (e _ _ h) hs
theorem LFrom.same {H H':Hp}(e:Same H H'):∀{p:Pre}{l l':Addr},LFrom H l p l'->LFrom H' l p l'
 | [],_,_,h=>h
 | (k,s)::p,l,l',h=>by
   obtain⟨ts,t,m,h1,h2,h3,h4⟩:=h
   exact⟨ts,t,m,e _ _ h1,h2,h3.same e,LFrom.same e h4⟩
theorem LFrom.app {H:Hp}:∀{p q:Pre}{l m l':Addr},LFrom H l p m->LFrom H m q l'->LFrom H l (p++q) l'
 | [],_,_,_,_,h,g=>by cases h;exact g
 | (k,s)::p,q,l,m,l',h,g=>by
   obtain⟨ts,t,x,h1,h2,h3,h4⟩:=h
   exact⟨ts,t,x,h1,h2,h3,LFrom.app h4 g⟩
inductive spListOf (K:Ab) (vs:List V) (H:Hp) (Q:VK) (E:XK):Prop
 | mk (bd pt l:Addr) (p:Pre) (k:Int) (h0:vs=[.ref bd,.ref pt]) (h1:SqT K H pt ((flat p++[k]).map V.int)) (h2:LFrom H bd p l) (h3:p.length<=100) (q:∀H',Same H H'->Q (.ref l) H'):spListOf K vs H Q E
inductive spFound (K:Ab) (vs:List V) (H:Hp) (Q:VK) (E:XK):Prop
 | mk (bd pt l:Addr) (p:Pre) (k:Nat) (ts:List Addr) (h0:vs=[.ref bd,.ref pt]) (h1:SqT K H pt ((flat p++[(k:Int)]).map V.int)) (h2:LFrom H bd p l) (h3:p.length<=100) (h4:H l=some (.lst (ts.map V.ref))) (q1:∀t H',ts[k]? = some t->Same H H'->Q (.ref t) H') (q2:∀H',ts[k]? = none->Same H H'->Q .non H'):spFound K vs H Q E
theorem scListOf:FnScope ["body","path","deeds","place"] ["body","path"] (aq sf):=⟨rfl,rfl,rfl,by decide +kernel,rfl,by decide +kernel,by decide +kernel⟩
theorem a4k (C:Con K mg w) (F:Fun K "list_of" "list_of" sf f fd) (GI:FnOk P w K mg base CX0 1 gI dI ["deed"] spLists) (cI:Cal K mg "lists_in" gI dI ["deed"]):FnOk P w K mg base CX0 2 f fd ["body","path"] (spListOf K):=by
 refine F.okQ scListOf (fun vs H Q E h=>?_) (fun cdv A outer s0 H vs Q E hr h=>?_)
 . obtain⟨bd,pt,l,p,k,rfl,_⟩:=h;rfl
 obtain⟨bd,pt,l,p,k,rfl,hpt,hl,hp,q⟩:=h
 have nd:=scListOf.nd
 refine⟨_,af (aw (i:=2) nd rfl (Or.inl rfl) (qv 0))
   (af (c8 AM rfl (a4b rfl C.range (bj (fc (ax a9z (bc dt rfl C.len Bk (ak (qv 1) ad)) ac) (bj ad)))) (b8 (i:=3) nd rfl (Or.inl rfl)) (ai (aw (i:=2) nd rfl (Or.inl rfl) (ah et (ar GI hr rfl cI.name cI.keep cI.bind .nil ap (av (ah et (qv 2) (ah au (qv 1) (qv 3) (fun _ _=>rfl)) (fun _ _=>rfl)) ad)) (ah au (qv 1) (ax bm (qv 3) ac) (fun _ _=>rfl)) (fun _ _=>rfl)))))
   (ai (b0 (qv 2)))),?_⟩
 have hlen:(((flat p++[k]).map V.int).length:Int)=2*(p.length:Int)+1:=by rw[Ad,Ag,l9];simp
 refine⟨_,rfl,?_⟩
 dsimp only[b7]
 refine ao (a:=tFor _ _ _) fun D1 hN1 hR1 hC1=>?_
 refine⟨_,rfl,pt,_,rfl,.inr hpt,_,_,rfl,rfl,0,_,rfl,⟨by decide,by decide,by omega,by omega⟩,?_⟩
 rw[show (((((flat p++[k]).map V.int).length:Int) - 1 - 0+1) / 2).toNat=p.length by omega]
 refine a1n (fun i σ H1=>Same H H1/\∃(m:Addr) (z3:Option V),LFrom H1 m (p.drop i) l/\σ=[some (.ref bd),some (.ref pt),some (.ref m),z3]) ⟨Same.refl _,bd,none,hl,rfl⟩ ?_ ?_
 . rintro i σ H1 hi ⟨e1,m,z3,hm,rfl⟩
   obtain⟨⟨a,b⟩,hab⟩:∃x,p[i]? = some x:=⟨_,Af hi⟩
   rw[DS hi,(Ao.mp hab).2] at hm
   obtain⟨ts,t,x,hm1,hm2,hm3,hm4⟩:=hm
   obtain⟨ha,hb⟩:=a00 (z:=[k]) hab
   have i1:(0:Int)+(i:Int)*2=((2*i:Nat):Int):=by omega
   have i2:((2*i:Nat):Int)+1=((2*i+1:Nat):Int):=by omega
   rw[i1]
   have at1:atI ((flat p++[k]).map V.int) ((2*i:Nat):Int)=some (.int (a:Int)):=bn (by rw[Ai,ha];rfl)
   have at2:atI (ts.map V.ref) (a:Int)=some (.ref t):=bn (by rw[Ai,hm2];rfl)
   have at3:atI ((flat p++[k]).map V.int) (((2*i:Nat):Int)+1)=some (.int (b:Int)):=by rw[i2];exact bn (by rw[Ai,hb];rfl)
   have hpt1:=e1.seqT hpt
   have fin:∀{nl:Addr} {us:List V},H1 nl=none->atI us (b:Int)=some (.ref x)->Same H1 (upd H1 nl (.lst us))/\LFrom (upd H1 nl (.lst us)) x (p.drop (i+1)) l:=fun hnl _=>⟨ag hnl _,hm4.same (ag hnl _)⟩
   rcases hm3 with⟨i',o,c,h,hs⟩|⟨c,d,h,hs⟩
   . have at4:atI [V.ref i',V.ref o] (b:Int)=some (.ref x):=by rcases hs with⟨rfl,rfl⟩|⟨rfl,rfl⟩<;>rfl
     refine⟨_,rfl,_,rfl,_,rfl,pt,_,_,_,rfl,rfl,hpt1,at1,m,_,_,_,rfl,rfl,SqL.of hm1,at2,.cond t i' o c rfl h fun nl hnl=>?_⟩
     obtain⟨s,g⟩:=fin hnl at4
     exact⟨_,rfl,_,rfl,_,_,rfl,rfl,pt,_,_,_,rfl,rfl,s.seqT hpt1,at3,nl,_,_,_,rfl,rfl,SqL.of aa,at4,e1.trans s,x,_,g,rfl⟩
   . have at4:atI [V.ref x] (b:Int)=some (.ref x):=by subst hs;rfl
     refine⟨_,rfl,_,rfl,_,rfl,pt,_,_,_,rfl,rfl,hpt1,at1,m,_,_,_,rfl,rfl,SqL.of hm1,at2,.loop t x c d rfl h fun nl hnl=>?_⟩
     obtain⟨s,g⟩:=fin hnl at4
     exact⟨_,rfl,_,rfl,_,_,rfl,rfl,pt,_,_,_,rfl,rfl,s.seqT hpt1,at3,nl,_,_,_,rfl,rfl,SqL.of aa,at4,e1.trans s,x,_,g,rfl⟩
 rintro σ H1 ⟨e1,m,z3,hm,rfl⟩
 rw[List.drop_length] at hm
 cases hm
 exact hN1 _ _ ⟨_,rfl,q H1 e1⟩
theorem scFound:FnScope ["body","path","deeds"] ["body","path"] (aq w6):=⟨rfl,rfl,rfl,by decide +kernel,rfl,by decide +kernel,by decide +kernel⟩
theorem a5s (C:Con K mg w) (F:Fun K "found_at" "found_at" w6 f fd) (GL:FnOk P w K mg base CX0 2 gL dL ["body","path"] (spListOf K)) (cL:Cal K mg "list_of" gL dL ["body","path"]):FnOk P w K mg base CX0 3 f fd ["body","path"] (spFound K):=by
 refine F.okQ scFound (fun vs H Q E h=>?_) (fun cdv A outer s0 H vs Q E hr h=>?_)
 . obtain⟨bd,pt,l,p,k,ts,rfl,_⟩:=h;rfl
 obtain⟨bd,pt,l,p,k,ts,rfl,hpt,hl,hp,hts,q1,q2⟩:=h
 have nd:=scFound.nd
 refine⟨_,af (aw (i:=2) nd rfl (Or.inl rfl) (ar GL hr rfl cL.name cL.keep cL.bind .nil ap (ak (qv 0) (ak (qv 1) ad))))
   (ai (b0 (gb (ay um (ah au (qv 1) (c5 bw ac) (fun _ _=>rfl)) (bc dt rfl C.len Bk (ak (qv 2) ad)) (az _)) (ah et (qv 2) (ah au (qv 1) (c5 bw ac) (fun _ _=>rfl)) (fun _ _=>rfl)) i6))),?_⟩
 refine⟨_,rfl,_,rfl,bd,pt,l,p,k,rfl,hpt,hl,hp,fun H1 e1=>?_⟩
 have hpt1:=e1.seqT hpt
 rw[Az] at hpt1
 have hts1:=e1 _ _ hts
 refine⟨_,rfl,_,rfl,pt,_,_,_,rfl,rfl,hpt1,bh,_,rfl,l,_,rfl,.inl (SqL.of hts1),_,_,rfl,rfl,_,rfl,iteB (fun c=>?_) (fun c=>?_)⟩
 . have c':(k:Int)<((ts.map V.ref).length:Int):=of_decide_eq_true c
   have hk:k<ts.length:=by rw[Ad] at c';omega
   obtain⟨t,ht1,ht2,_⟩:=pick hk
   exact⟨_,rfl,_,rfl,_,rfl,pt,_,_,_,rfl,rfl,hpt1,bh,l,_,_,_,rfl,rfl,SqL.of hts1,ht2,q1 t H1 ht1 e1⟩
 . have c':¬ (k:Int)<((ts.map V.ref).length:Int):=of_decide_eq_false c
   have hk:ts.length<=k:=by rw[Ad] at c';omega
   exact q2 H1 (Bt hk) e1
end K52
namespace L2
open PySem PySem.Spec
theorem i8 {α β:Type}{J:It}{H1:Hp}{σ:St}{ix:List Nat}{te:TE}{Q:VK}{I0:Hp->Prop}(xs:List V) (rs:List α) (R:Addr->Hp->V->β->Prop) (f:α->β) (hJ:JSeq J I0 xs) (h0:I0 H1) (hz:xs.length<=1000) (hl:rs.length=xs.length)
   (hR:∀D H H' y r,R D H y r->fu D H H'->R D H' y r)
   (he:∀(D:Addr),H1 D=none->∀(i:Nat) (x:V) (r:α),xs[i]? = some x->rs[i]? = some r->∀H2,Same H1 H2->H2 D≠none->∀Q':VK,(∀y H3,Same H2 H3->R D H3 y (f r)->Q' y H3)->te (some x::bq σ ix) H2 Q')
   (hQ:∀D H' ys,H1 D=none->Same H1 H'->H' D=some (.lst ys)->Paired (fun y r=>R D H' y r) ys (rs.map f)->Q (.ref D) H'):ji J H1 σ ix tYes te Q:=by
 intro D hD
 have put:∀H ys,Same H1 H->Same H1 (upd H D (.lst ys)):=fun H ys e b u q=>by rw[ae (aj q hD)];exact e b u q
 refine⟨fun i m H=>i<=xs.length/\m=xs.length - i/\Same H1 H/\∃ys:List V,H D=some (.lst ys)/\Paired (fun y r=>R D H y r) ys ((rs.take i).map f),⟨xs.length,A8 _,rfl,put _ _ (Same.refl _),[],aa,by simpa using Paired.nil⟩,?_⟩
 rintro i m H ⟨hi,rfl,e,ys,hy,hp⟩
 have hI:=hJ.stay _ _ h0 e
 by_cases hlt:i<xs.length
 . refine .inr ⟨hJ.go i H hI hlt,fun x H' hy'=>?_⟩
   obtain⟨rfl,hx⟩:=hJ.yld i H x H' hlt hI hy'
   have hri:i<rs.length:=by omega
   have hr:rs[i]? = some rs[i]:=Af hri
   have ht:rs.take (i+1)=rs.take i++[rs[i]]:=by rw[BY,hr];rfl
   have hlen:ys.length=i:=by
     have h1:=Ax hp
     rw[Ad,AG] at h1
     omega
   dsimp only[tYes]
   rw[if_pos rfl]
   refine he D hD i x rs[i] hx hr _ e (by rw[hy];simp) _ fun y H4 e4 hR4=>?_
   have hput:fu D H4 (upd H4 D (.lst (ys++[y]))):=fun b u q hn=>by rw[ae hn];exact q
   refine⟨ys,e4 _ _ hy,by rw[hlen];exact AB hlt (A0 hz (by decide)),xs.length - (i+1),by omega,hlt,rfl,put _ _ (e.trans e4),ys++[y],aa,?_⟩
   rw[ht,Az]
   exact Paired.snocP (Paired.mapP hp fun a r z=>hR _ _ _ _ _ (hR _ _ _ _ _ z (e4.x D)) hput) (hR _ _ _ _ _ hR4 hput)
 . have hi':i=xs.length:=by omega
   subst hi'
   refine .inl ⟨hJ.stop _ H hI (Aj _),?_⟩
   rw[<- hl,Bv] at hp
   exact hQ D H ys hD e hy hp
end L2
namespace K52
open PySem PySem.Spec L2 Mir
variable {P:Program}{w:World}{K:Ab}{mg:Str->Option Value}{base:Heap}{f g gS gN gA gW gI gL gF gO gT gB C fI CM CF fJ gD gR gU gM gH gE gC gK gX gP:Addr}{fd gd dS dN dA dW dI dL dF dO dT dB dD dR dU dM dH dE dC dK dX dP:FuncData}
theorem ft {α:Type}{R:Addr->α->Prop}:∀{ys:List V}{rs:List α},Paired (fun y r=>∃b,y=V.ref b/\R b r) ys rs->∃bs:List Addr,ys=bs.map V.ref/\Paired R bs rs
 | _,_,.nil=>⟨[],rfl,.nil⟩
 | _,_,.cons h t=>by
   obtain⟨b,rfl,hb⟩:=h
   obtain⟨bs,rfl,hp⟩:=ft t
   exact⟨b::bs,rfl,.cons hb hp⟩
noncomputable def byK (ns:List Str) (ts:List Addr):List (Str×V):=(ns.zip ts).map fun x=>(x.1,V.ref x.2)
inductive spBy (K:Ab) (vs:List V) (H:Hp) (Q:VK) (E:XK):Prop
 | mk (l:Addr) (ts:List Addr) (ns:List Str) (h0:vs=[.ref l]) (h1:H l=some (.lst (ts.map V.ref))) (h2:Paired (fun t n=>∃us,H t=some (.tup (.str n::us))) ts ns) (h3:ns.Nodup) (h4:ts.length<=10)
     (q:∀d H',Same H H'->H' d=some (.dK ((byK ns ts).map kk))->Q (.ref d) H'):spBy K vs H Q E
theorem wq {K:Ab}{D:Addr}{H:Hp}:∀{us:List Addr}{zs:List (Str×Addr)},Paired (fun b (x:Str×Addr)=>b≠D/\H b=some (.tup [.str x.1,.ref x.2])) us zs->Paired (fun t (kv:Str×V)=>SqT K H t [.str kv.1,kv.2]) us (zs.map fun x=>(x.1,V.ref x.2))
 | _,_,.nil=>.nil
 | _,_,.cons h r=>.cons (SqT.of h.2) (wq r)
theorem scByNames:FnScope ["program"] ["program"] (aq ph):=⟨rfl,rfl,rfl,by decide +kernel,rfl,by decide +kernel,by decide +kernel⟩
theorem a1h (C:Con K mg w) (F:Fun K "by_names" "by_names" ph f fd):FnOk P w K mg base CX0 1 f fd ["program"] (spBy K):=by
 refine F.okQ scByNames (fun vs H Q E h=>?_) (fun cdv A outer s0 H vs Q E hr h=>?_)
 . obtain⟨l,ts,ns,rfl,_⟩:=h;rfl
 obtain⟨l,ts,ns,rfl,hl,hts,hnd,h10,q⟩:=h
 have nd:=scByNames.nd
 refine⟨_,(ai (b0 (be (qg (K:=K) rfl rfl) rfl C.dict BW (cg (im (fk (qv 0)) (fun _ _ _ _=>il) (fun _ _ _ _=>(fe (av (ah (ixTK (K:=K) rfl) (qv 0) ac (fun _ _=>rfl)) (ak (qv 0) ad))))) ad)))),?_⟩
 have hlen:=Ax hts
 refine⟨_,rfl,l,rfl,⟨_,SqL.of hl⟩,?_⟩
 refine i8 (ts.map V.ref) (ns.zip ts) (fun D G y (x:Str×Addr)=>∃b,y=V.ref b/\b≠D/\G b=some (.tup [.str x.1,.ref x.2])) id i7 (SqL.of hl) (by rw[Ad];omega) (by rw[Ad,Dr];omega) (fun D G G' y x z e=>?_) (fun D hD j x r hx hr' H2 e2 hD2 Q' q'=>?_) (fun D H2 ys hD e2 hD2 hpt=>?_)
 . obtain⟨b,rfl,nb,hb⟩:=z
   exact⟨b,rfl,nb,e _ _ hb nb⟩
 . rw[Ai] at hx
   obtain⟨t,ht,rfl⟩:=AR.mp hx
   obtain⟨n,hn,us,hu⟩:=Paired.nth hts ht
   have hr2:r=(n,t):=by
     have:(ns.zip ts)[j]? = some (n,t):=List.getElem?_zip_eq_some.mpr ⟨hn,ht⟩
     rw[hr'] at this;exact Ay this
   subst hr2
   refine⟨_,rfl,t,_,0,_,rfl,rfl,SqT.of (e2 _ _ hu),at0,_,rfl,(show 2<=sizeLine by decide),fun b hb=>q' (.ref b) _ (ag hb _) ⟨b,rfl,fun z=>?_,aa⟩⟩
   rw[z] at hb;exact hD2 hb
 rw[Dv] at hpt
 obtain⟨us,rfl,hpp⟩:=ft (R:=fun b (x:Str×Addr)=>b≠D/\H2 b=some (.tup [.str x.1,.ref x.2])) hpt
 have hlz:(ns.zip ts).length=ns.length:=by rw[Dr];omega
 have hul:=Ax hpp
 refine⟨D,us,byK ns ts,rfl,SqL.of hD2,?_,?_,(by omega),fun d hd=>q d _ (e2.trans (ag hd _)) aa⟩
 . exact wq hpp
 . unfold byK
   rw[BO]
   show ((ns.zip ts).map (·.1)).Nodup
   rw[List.map_fst_zip (by omega)]
   exact hnd
end K52
namespace L2
open PySem PySem.Spec
open Classical in
noncomputable def rm (X:Addr->Prop) (H:Hp):Hp:=fun c=>if X c then none else H c
variable {X X':Addr->Prop}{H H':Hp}
theorem cr {c:Addr}(h:¬ X c):rm X H c=H c:=by unfold rm;rw[if_neg h]
theorem gs {c:Addr}{o:HO}(h:rm X H c=some o):¬ X c/\H c=some o:=by
 unfold rm at h
 by_cases z:X c
 . rw[if_pos z] at h;cases h
 . rw[if_neg z] at h;exact⟨z,h⟩
theorem dk:Same (rm X H) H:=fun _ _ h=>(gs h).2
theorem df (e:Same H H'):Same (rm X H) (rm X H'):=fun b o h=>by
 obtain⟨h1,h2⟩:=gs h
 rw[cr h1];exact e _ _ h2
theorem xo {D:Addr}(e:fu D H H') (hD:X D):Same (rm X H) (rm X H'):=fun b o h=>by
 obtain⟨h1,h2⟩:=gs h
 rw[cr h1];exact e _ _ h2 (fun z=>h1 (by rw[z];exact hD))
theorem aap (h:∀c,X c->X' c):Same (rm X' H) (rm X H):=fun b o z=>by
 obtain⟨h1,h2⟩:=gs z
 rw[cr (fun y=>h1 (h _ y))];exact h2
theorem a3g {a:Addr}{o:HO}(h:X a):rm X (upd H a o)=rm X H:=by
 funext c
 by_cases z:X c
 . unfold rm;rw[if_pos z,if_pos z]
 . rw[cr z,cr z,ae (fun y=>z (by rw[y];exact h))]
end L2
namespace K52
open PySem PySem.Spec L2 Mir
variable {P:Program}{w:World}{K:Ab}{mg:Str->Option Value}{base:Heap}{f g gS gN gA gW gI gL gF gO gT gB C fI CM CF fJ gD gR gU gM gH gE gC gK gX gP:Addr}{fd gd dS dN dA dW dI dL dF dO dT dB dD dR dU dM dH dE dC dK dX dP:FuncData}
noncomputable abbrev oy:Stmt:=top 16
noncomputable abbrev lh:Stmt:=top 17
noncomputable abbrev sq:Stmt:=top 26
inductive spCopy (K:Ab) (bs:List Nat) (vs:List V) (H:Hp) (Q:VK) (E:XK):Prop
 | mk (X:Addr->Prop) (l:Addr) (ds:List Deed) (h0:vs=[.ref l]) (hX:∀c,X c->H c≠none) (h1:ListX K (rm X H) bs l ds) (q:∀l' H',Same H H'->ListX K (rm X H') bs l' ds->Q (.ref l') H'):spCopy K bs vs H Q E
inductive spOwn (K:Ab) (bs:List Nat) (vs:List V) (H:Hp) (Q:VK) (E:XK):Prop
 | mk (X:Addr->Prop) (t:Addr) (d:Deed) (h0:vs=[.ref t]) (hX:∀c,X c->H c≠none) (h1:DeedX K (rm X H) (ListX K (rm X H) bs) t d) (q:∀t' H',Same H H'->DeedX K (rm X H') (ListX K (rm X H') bs) t' d->Q (.ref t') H'):spOwn K bs vs H Q E
inductive spBehind (K:Ab) (vs:List V) (H:Hp) (Q:VK) (E:XK):Prop
 | mk (t:Addr) (ns:List Int) (k:Int) (h0:vs=[.ref t]) (h:SqT K H t ((ns++[k]).map V.int)) (hn:ns.length<=100) (q:∀t' H',Same H H'->SqT K H' t' ((ns++[k+1]).map V.int)->Q (.ref t') H'):spBehind K vs H Q E
theorem scBehind:FnScope ["path"] ["path"] (aq sq):=⟨rfl,rfl,rfl,by decide +kernel,rfl,by decide +kernel,by decide +kernel⟩
theorem a2s (C:Con K mg w) (F:Fun K "behind_deed" "behind_deed" sq f fd):FnOk P w K mg base CX0 1 f fd ["path"] (spBehind K):=by
 refine F.okQ scBehind (fun vs H Q E h=>?_) (fun cdv A outer s0 H vs Q E hr h=>?_)
 . obtain⟨t,ns,k,rfl,_⟩:=h;rfl
 obtain⟨t,ns,k,rfl,h,hn,q⟩:=h
 have nd:=scBehind.nd
 refine⟨_,(ai (b0 (ax wm (c4 gt (qv 0) ca (cb (c5 bw ac))) (fe (fc (ax bm (ah au (qv 0) (c5 bw ac) (fun _ _=>rfl)) ac) ad))))),?_⟩
 rw[Az] at h
 refine⟨_,rfl,_,rfl,_,rfl,t,_,rfl,h,fun p1 H1 e1 h1=>?_⟩
 have hc:cutV (ns.map V.int++[k].map V.int) none (some (-1))=ns.map V.int:=a01 _ _ (m:=1) rfl (by decide)
 rw[show cutV (ns.map V.int++[k].map V.int) none (some (-(1:Int)))=ns.map V.int from hc] at h1
 refine⟨_,rfl,_,rfl,t,_,_,_,rfl,rfl,e1.seqT h,bh,_,_,rfl,rfl,(show 1<=sizeLine by decide),fun p2 hp2=>?_⟩
 have s2:=ag hp2 (.tup [.int (k+1)])
 refine⟨p1,p2,_,_,rfl,rfl,s2.seqT h1,SqT.of aa,bi (by rw[Ad];show _+1<=1000;omega),fun p3 H3 e3 h3=>?_⟩
 exact q p3 H3 ((e1.trans s2).trans e3) (by rw[Az];exact h3)
theorem scOwnDeed:FnScope ["deed"] ["deed"] (aq oy):=⟨rfl,rfl,rfl,by decide +kernel,rfl,by decide +kernel,by decide +kernel⟩
theorem scOwnDeeds:FnScope ["deeds"] ["deeds"] (aq lh):=⟨rfl,rfl,rfl,by decide +kernel,rfl,by decide +kernel,by decide +kernel⟩
theorem a62:FnOk P w K mg base CX0 1 f fd ["deeds"] (spCopy K []) :=
 ⟨fun vs H Q E h=>by obtain⟨X,l,ds,_,_,h1,_⟩:=h;exact h1.elim,fun A outer s H args us vs Q E _ _ _ _ h=>by obtain⟨X,l,ds,_,_,h1,_⟩:=h;exact h1.elim⟩
theorem a58 {n b:Nat}{bs:List Nat}(hb:b<=900) (C:Con K mg w) (F:Fun K "own_deeds" "own_deeds" lh f fd) (GO:FnOk P w K mg base CX0 (n+1) gO dO ["deed"] (spOwn K bs)) (cO:Cal K mg "own_deed" gO dO ["deed"]):FnOk P w K mg base CX0 (n+1+1) f fd ["deeds"] (spCopy K (b::bs)):=by
 refine F.okQ scOwnDeeds (fun vs H Q E h=>?_) (fun cdv A outer s0 H vs Q E hr h=>?_)
 . obtain⟨X,l,ds,rfl,_⟩:=h;rfl
 obtain⟨X,l,ds,rfl,hX,⟨ts,hl,hp,hlen⟩,q⟩:=h
 have nd:=scOwnDeeds.nd
 refine⟨_,(ai (b0 (im (fk (qv 0)) (fun _ _ _ _=>il) (fun _ _ _ _=>(ar GO hr rfl cO.name cO.keep cO.bind .nil ap (ak (qv 0) ad)))))),?_⟩
 have hpl:=Ax hp
 refine⟨_,rfl,l,rfl,⟨_,SqL.of (dk _ _ hl)⟩,?_⟩
 refine i8 (ts.map V.ref) ds (fun D G y d=>∃t',y=V.ref t'/\DeedX K (rm (fun c=>X c\/c=D) G) (ListX K (rm (fun c=>X c\/c=D) G) bs) t' d) id i7 (SqL.of (dk _ _ hl)) (by rw[Ad];omega) (by rw[Ad,hpl]) (fun D G G' y d z e=>?_) (fun D hD j x d hx hd H2 e2 hD2 Q' q'=>?_) (fun D H2 ys hD e2 hD2 hpt=>?_)
 . obtain⟨t',rfl,h⟩:=z
   have g:Same (rm (fun c=>X c\/c=D) G) (rm (fun c=>X c\/c=D) G'):=xo e (.inr rfl)
   exact⟨t',rfl,h.same g fun _ _ y=>y.same g⟩
 . rw[Ai] at hx
   obtain⟨t,ht,rfl⟩:=AR.mp hx
   obtain⟨d',hd',hX2⟩:=Paired.nth hp ht
   rw[hd] at hd';cases hd'
   have g:Same (rm X H) (rm (fun c=>X c\/c=D) H2):=fun b o h=>by
     obtain⟨h1,h2⟩:=gs h
     rw[cr (fun z=>z.elim h1 (aj h2 hD))];exact e2 _ _ h2
   refine⟨_,rfl,(fun c=>X c\/c=D),t,d,rfl,fun c z y=>?_,hX2.same g fun _ _ y=>y.same g,fun t' H3 e3 h3=>q' (.ref t') H3 e3 ⟨t',rfl,h3⟩⟩
   rcases z with z|z
   . cases qc:H c with
     | none=>exact hX c z qc
     | some o=>rw[e2 _ _ qc] at y;cases y
   . rw[z] at y;exact hD2 y
 rw[Dv] at hpt
 obtain⟨us,rfl,hpp⟩:=ft hpt
 have hsub:Same (rm (fun c=>X c\/c=D) H2) (rm X H2):=aap fun c z=>.inl z
 exact q D H2 e2 ⟨us,by rw[cr (fun z=>hX D z hD)];exact hD2,Paired.mapP hpp fun _ _ z=>z.same hsub fun _ _ y=>y.same hsub,by rw[Ax hpp,<- hpl];exact hlen⟩
theorem a8n {n:Nat}{bs:List Nat}(C:Con K mg w) (F:Fun K "own_deed" "own_deed" oy f fd) (GS:FnOk P w K mg base CX0 (n+1) gS dS ["deeds"] (spCopy K bs)) (cS:Cal K mg "own_deeds" gS dS ["deeds"]):FnOk P w K mg base CX0 (n+1+1) f fd ["deed"] (spOwn K bs):=by
 refine F.okQ scOwnDeed (fun vs H Q E h=>?_) (fun cdv A outer s0 H vs Q E hr h=>?_)
 . obtain⟨X,t,d,rfl,_⟩:=h;rfl
 obtain⟨X,t,d,rfl,hX,hd,q⟩:=h
 have nd:=scOwnDeed.nd
 have hXX:∀{H':Hp},Same H H'->∀c,X c->H' c≠none:=fun {H'} e' c z y=>by
   cases qc:H c with
   | none=>exact hX c z qc
   | some o=>rw[e' _ _ qc] at y;cases y
 refine⟨_,af (bf (ay bp (ah au (qv 0) ac (fun _ _=>rfl)) b6 (az _)) (ai (b0 (ax o7 (c4 qk (qv 0) ca (cb ac)) (fe (b5 (ar GS hr rfl cS.name cS.keep cS.bind .nil ap (av (ah au (qv 0) ac (fun _ _=>rfl)) ad)) (b5 (ar GS hr rfl cS.name cS.keep cS.bind .nil ap (av (ah au (qv 0) ac (fun _ _=>rfl)) ad)) ad)))))) bo)
   (af (bf (ay bp (ah au (qv 0) ac (fun _ _=>rfl)) b6 (az _)) (ai (b0 (ax o7 (c4 qk (qv 0) ca (cb ac)) (fe (gx (b5 (be dh rfl C.list BF (av (ah au (ah au (qv 0) ac (fun _ _=>rfl)) ac (fun _ _=>rfl)) ad)) (b5 (be dh rfl C.list BF (av (ah au (ah au (qv 0) ac (fun _ _=>rfl)) ac (fun _ _=>rfl)) ad)) ad)) (b5 (ar GS hr rfl cS.name cS.keep cS.bind .nil ap (av (ah au (qv 0) ac (fun _ _=>rfl)) ad)) ad)))))) bo)
   (ai (b0 (qv 0)))),?_⟩
 have nw:∀{H':Hp} {p:Addr},Same H H'->H' p=none->¬ X p:=fun e' hp z=>hXX e' _ z hp
 cases hd with
 | plain p h1 h2 =>
   obtain⟨w,vs,hw,n1,n2⟩:=yl h1 h2
   have hw':=dk _ _ hw
   refine⟨_,rfl,t,_,0,_,rfl,rfl,SqT.of hw',at0,rfl,_,rfl,iteB (fun c=>absurd (V.str.inj (of_decide_eq_true c)) n1) (fun _=>?_)⟩
   refine⟨_,rfl,t,_,0,_,rfl,rfl,SqT.of hw',at0,rfl,_,rfl,iteB (fun c=>absurd (V.str.inj (of_decide_eq_true c)) n2) (fun _=>?_)⟩
   exact⟨_,rfl,q t H (Same.refl _) (.plain p h1 h2)⟩
 | cond c i' o r a b' h hc okr hi' ho =>
   have h':=dk _ _ h
   refine⟨_,rfl,t,_,0,_,rfl,rfl,SqT.of h',rfl,rfl,_,rfl,iteB (fun _=>?_) (fun c=>absurd c (by decide +kernel))⟩
   refine⟨_,rfl,_,rfl,t,_,rfl,SqT.of h',(fun z=>absurd z.2 (show ¬ (2:Nat)=4 by decide)),fun p1 hp1=>?_⟩
   have s1:=ag hp1 (.tup [.str "if",.ref c])
   have k1:(upd H p1 (.tup [.str "if",.ref c])) p1=some (.tup [.str "if",.ref c]):=aa
   change tTup _ _ (upd H p1 (.tup [.str "if",.ref c])) _
   generalize upd H p1 (.tup [.str "if",.ref c])=H1 at s1 k1 |-
   refine⟨_,rfl,t,_,2,_,rfl,rfl,SqT.of (s1 _ _ h'),rfl,X,i',a,rfl,hXX s1,hi'.same (df s1),fun l1 H3 e3' hl3=>?_⟩
   have e3:=s1.trans e3'
   refine⟨_,rfl,t,_,3,_,rfl,rfl,SqT.of (e3 _ _ h'),rfl,X,o,b',rfl,hXX e3,ho.same (df e3),fun l2 H4 e4' hl4=>?_⟩
   have e4:=e3.trans e4'
   refine⟨(show 2<=sizeLine by decide),fun p2 hp2=>?_⟩
   have s5:=ag hp2 (.tup [.ref l1,.ref l2])
   have k5:(upd H4 p2 (.tup [.ref l1,.ref l2])) p2=some (.tup [.ref l1,.ref l2]):=aa
   generalize upd H4 p2 (.tup [.ref l1,.ref l2])=H5 at s5 k5 |-
   have e5:=e4.trans s5
   refine⟨p1,p2,_,_,rfl,rfl,SqT.of (s5 _ _ (e4' _ _ (e3' _ _ k1))),SqT.of k5,(by simp),(show 4<=sizeLine by decide),(fun z=>by cases z),fun _ nt hnt=>?_⟩
   have s6:=ag hnt (.tup [.str "if",.ref c,.ref l1,.ref l2])
   have k6:(upd H5 nt (.tup [.str "if",.ref c,.ref l1,.ref l2])) nt=some (.tup [.str "if",.ref c,.ref l1,.ref l2]):=aa
   have nn:=nw e5 hnt
   have e6:=e5.trans s6
   exact q nt _ e6 (.cond c l1 l2 r a b' (by rw[cr nn];exact k6) (df e6 _ _ hc) okr (hl3.same (df ((e4'.trans s5).trans s6))) (hl4.same (df (s5.trans s6))))
 | loop c td i' fa pa r F' P' a h hc okr htd hF hP okF okP lF lP hi' =>
   have h':=dk _ _ h
   have htd':=dk _ _ htd
   refine⟨_,rfl,t,_,0,_,rfl,rfl,SqT.of h',rfl,rfl,_,rfl,iteB (fun c=>absurd c (by decide +kernel)) (fun _=>?_)⟩
   refine⟨_,rfl,t,_,0,_,rfl,rfl,SqT.of h',rfl,rfl,_,rfl,iteB (fun _=>?_) (fun c=>absurd c (by decide +kernel))⟩
   obtain⟨as1,hF1,hF2⟩:=hF
   obtain⟨as2,hP1,hP2⟩:=hP
   refine⟨_,rfl,_,rfl,t,_,rfl,SqT.of h',(fun z=>absurd z.2 (show ¬ (2:Nat)=4 by decide)),fun p1 hp1=>?_⟩
   have s1:=ag hp1 (.tup [.str "while",.ref c])
   have k1:(upd H p1 (.tup [.str "while",.ref c])) p1=some (.tup [.str "while",.ref c]):=aa
   change tTup _ _ (upd H p1 (.tup [.str "while",.ref c])) _
   generalize upd H p1 (.tup [.str "while",.ref c])=H1 at s1 k1 |-
   refine⟨_,rfl,t,_,2,_,rfl,rfl,SqT.of (s1 _ _ h'),rfl,td,_,0,_,rfl,rfl,SqT.of (s1 _ _ htd'),rfl,fa,_,rfl,.inl (SqL.of (s1 _ _ (dk _ _ hF1))),fun n1 hn1=>?_⟩
   have s2':=ag hn1 (.lst (as1.map V.ref))
   have k2:(upd H1 n1 (.lst (as1.map V.ref))) n1=some (.lst (as1.map V.ref)):=aa
   have nn1:=nw s1 hn1
   generalize upd H1 n1 (.lst (as1.map V.ref))=H2 at s2' k2 |-
   have s2:=s1.trans s2'
   refine⟨_,rfl,t,_,2,_,rfl,rfl,SqT.of (s2 _ _ h'),rfl,td,_,1,_,rfl,rfl,SqT.of (s2 _ _ htd'),rfl,pa,_,rfl,.inl (SqL.of (s2 _ _ (dk _ _ hP1))),fun n2 hn2=>?_⟩
   have s3':=ag hn2 (.lst (as2.map V.ref))
   have k3:(upd H2 n2 (.lst (as2.map V.ref))) n2=some (.lst (as2.map V.ref)):=aa
   have nn2:=nw s2 hn2
   generalize upd H2 n2 (.lst (as2.map V.ref))=H3 at s3' k3 |-
   have s3:=s2.trans s3'
   refine⟨(show 2<=sizeLine by decide),fun tt htt=>?_⟩
   have s4':=ag htt (.tup [.ref n1,.ref n2])
   have k4:(upd H3 tt (.tup [.ref n1,.ref n2])) tt=some (.tup [.ref n1,.ref n2]):=aa
   have nn3:=nw s3 htt
   generalize upd H3 tt (.tup [.ref n1,.ref n2])=H4 at s4' k4 |-
   have s4:=s3.trans s4'
   refine⟨_,rfl,t,_,3,_,rfl,rfl,SqT.of (s4 _ _ h'),rfl,X,i',a,rfl,hXX s4,hi'.same (df s4),fun l1 H5 e5' hl5=>?_⟩
   have e5:=s4.trans e5'
   refine⟨(show 2<=sizeLine by decide),fun p2 hp2=>?_⟩
   have s6':=ag hp2 (.tup [.ref tt,.ref l1])
   have k6:(upd H5 p2 (.tup [.ref tt,.ref l1])) p2=some (.tup [.ref tt,.ref l1]):=aa
   generalize upd H5 p2 (.tup [.ref tt,.ref l1])=H6 at s6' k6 |-
   have e6:=e5.trans s6'
   have f5:=e5'.trans s6'
   have f4:=s4'.trans f5
   have f3:=s3'.trans f4
   have f2:=s2'.trans f3
   refine⟨p1,p2,_,_,rfl,rfl,SqT.of (f2 _ _ k1),SqT.of k6,(by simp),(show 4<=sizeLine by decide),(fun z=>by cases z),fun _ nt hnt=>?_⟩
   have s7:=ag hnt (.tup [.str "while",.ref c,.ref tt,.ref l1])
   have k7:(upd H6 nt (.tup [.str "while",.ref c,.ref tt,.ref l1])) nt=some (.tup [.str "while",.ref c,.ref tt,.ref l1]):=aa
   have nn:=nw e6 hnt
   have e7:=e6.trans s7
   exact q nt _ e7 (.loop c tt l1 n1 n2 r F' P' a (by rw[cr nn];exact k7) (df e7 _ _ hc) okr (by rw[cr nn3];exact s7 _ _ (f5 _ _ k4)) ⟨as1,by rw[cr nn1];exact s7 _ _ (f3 _ _ k2),Paired.mapP hF2 fun _ _ z=>RowAt.same z (df e7)⟩ ⟨as2,by rw[cr nn2];exact s7 _ _ (f4 _ _ k3),Paired.mapP hP2 fun _ _ z=>RowAt.same z (df e7)⟩ okF okP lF lP (hl5.same (df (s6'.trans s7))))
theorem a4x {H:Hp}{l:Addr}{as bs:List Addr}(h1:H l=some (.lst (as.map V.ref))) (h2:H l=some (.lst (bs.map V.ref))):as=bs:=by
 rw[h1] at h2
 exact (List.map_inj_right (f:=V.ref) (fun x y z=>by injection z)).mp (HO.lst.inj (Ay h2))
noncomputable abbrev pe:Stmt:=top 27
inductive LEnd (H:Hp) (bd:Addr):Pre->Addr->Pre×Nat->Option Addr->Prop
 | top (ts:List Addr) (h:H bd=some (.lst (ts.map V.ref))):LEnd H bd [] bd ([],ts.length) none
 | last (p:Pre) (l:Addr) (ts:List Addr) (k s:Nat) (t i o m:Addr) (c:V) (due:Pre×Nat) (e:Option Addr) (hl:LEnd H bd p l due e) (h:H l=some (.lst (ts.map V.ref))) (hk:ts[k]? = some t) (ht:H t=some (.tup [.str "if",c,.ref i,.ref o])) (hs:(s=0/\m=i)\/(s=1/\m=o)) (hn:k+1=ts.length):LEnd H bd (p++[(k,s)]) m due e
 | next (p:Pre) (l:Addr) (ts:List Addr) (k s:Nat) (t i o m t':Addr) (c:V) (due:Pre×Nat) (e:Option Addr) (hl:LEnd H bd p l due e) (h:H l=some (.lst (ts.map V.ref))) (hk:ts[k]? = some t) (ht:H t=some (.tup [.str "if",c,.ref i,.ref o])) (hs:(s=0/\m=i)\/(s=1/\m=o)) (hn:ts[k+1]? = some t'):LEnd H bd (p++[(k,s)]) m (p,k+1) (some t')
 | loop (p:Pre) (l:Addr) (ts:List Addr) (k:Nat) (t m:Addr) (c d:V) (due:Pre×Nat) (e:Option Addr) (hl:LEnd H bd p l due e) (h:H l=some (.lst (ts.map V.ref))) (hk:ts[k]? = some t) (ht:H t=some (.tup [.str "while",c,d,.ref m])):LEnd H bd (p++[(k,0)]) m (p,k) (some t)
section
variable {H H':Hp}{bd:Addr}
theorem LEnd.from {p:Pre}{l:Addr}{due:Pre×Nat}{e:Option Addr}(h:LEnd H bd p l due e):LFrom H bd p l:=by
 induction h with
 | top ts h=>rfl
 | last p l ts k s t i o m c due e hl h hk ht hs hn ih=>exact ih.app ⟨ts,t,m,h,hk,.cond i o c ht hs,rfl⟩
 | next p l ts k s t i o m t' c due e hl h hk ht hs hn ih=>exact ih.app ⟨ts,t,m,h,hk,.cond i o c ht hs,rfl⟩
 | loop p l ts k t m c d due e hl h hk ht ih=>exact ih.app ⟨ts,t,m,h,hk,.loop c d ht rfl,rfl⟩
theorem LEnd.same {p:Pre}{l:Addr}{due:Pre×Nat}{e:Option Addr}(h:LEnd H bd p l due e) (g:Same H H'):LEnd H' bd p l due e:=by
 induction h with
 | top ts h=>exact .top ts (g _ _ h)
 | last p l ts k s t i o m c due e hl h hk ht hs hn ih=>exact .last p l ts k s t i o m c due e ih (g _ _ h) hk (g _ _ ht) hs hn
 | next p l ts k s t i o m t' c due e hl h hk ht hs hn ih=>exact .next p l ts k s t i o m t' c due e ih (g _ _ h) hk (g _ _ ht) hs hn
 | loop p l ts k t m c d due e hl h hk ht ih=>exact .loop p l ts k t m c d due e ih (g _ _ h) hk (g _ _ ht)
inductive Stands (H:Hp) (bd:Addr) (p:Pre) (k:Nat) (due:Pre×Nat) (e:Option Addr):Prop
 | own (l t:Addr) (ts:List Addr) (hl:LFrom H bd p l) (h:H l=some (.lst (ts.map V.ref))) (hk:ts[k]? = some t) (hd:due=(p,k)) (he:e=some t)
 | fin (l:Addr) (ts:List Addr) (hl:LEnd H bd p l due e) (h:H l=some (.lst (ts.map V.ref))) (hk:k=ts.length)
theorem Stands.same {p:Pre}{k:Nat}{due:Pre×Nat}{e:Option Addr}(h:Stands H bd p k due e) (g:Same H H'):Stands H' bd p k due e:=by
 rcases h with⟨l,t,ts,hl,h,hk,hd,he⟩|⟨l,ts,hl,h,hk⟩
 . exact .own l t ts (hl.same g) (g _ _ h) hk hd he
 . exact .fin l ts (hl.same g) (g _ _ h) hk
theorem LEnd.zero {p:Pre}{l:Addr}{due:Pre×Nat}{e:Option Addr}(h:LEnd H bd p l due e) (hp:p=[]):∃ts:List Addr,l=bd/\H bd=some (.lst (ts.map V.ref))/\due=([],ts.length)/\e=none:=by
 cases h with
 | top ts h=>exact⟨ts,rfl,h,rfl,rfl⟩
 | last p l ts k s t i o m c due e hl h hk ht hs hn=>simp at hp
 | next p l ts k s t i o m t' c due e hl h hk ht hs hn=>simp at hp
 | loop p l ts k t m c d due e hl h hk ht=>simp at hp
theorem LEnd.up {p:Pre}{l:Addr}{due:Pre×Nat}{e:Option Addr}(h:LEnd H bd p l due e) (hp:p≠[]):∃(p':Pre) (k' s':Nat) (l' t:Addr) (ts:List Addr),p=p'++[(k',s')]/\LFrom H bd p' l'/\H l'=some (.lst (ts.map V.ref))/\ts[k']? = some t/\((∃c i o,H t=some (.tup [.str "if",c,.ref i,.ref o])/\Stands H bd p' (k'+1) due e)\/∃c d i,H t=some (.tup [.str "while",c,d,.ref i])/\Stands H bd p' k' due e):=by
 cases h with
 | top ts h=>exact absurd rfl hp
 | last p l ts k s t i o m c due e hl h hk ht hs hn=>exact⟨p,k,s,_,t,ts,rfl,hl.from,h,hk,.inl ⟨c,i,o,ht,.fin _ ts hl h hn⟩⟩
 | next p l ts k s t i o m t' c due e hl h hk ht hs hn=>exact⟨p,k,s,_,t,ts,rfl,hl.from,h,hk,.inl ⟨c,i,o,ht,.own _ t' ts hl.from h hn rfl rfl⟩⟩
 | loop p l ts k t m c d due e hl h hk ht=>exact⟨p,k,0,_,t,ts,rfl,hl.from,h,hk,.inr ⟨c,d,_,ht,.own _ t ts hl.from h hk rfl rfl⟩⟩
end
inductive spSettled (K:Ab) (vs:List V) (H:Hp) (Q:VK) (E:XK):Prop
 | mk (bd pt:Addr) (p:Pre) (k:Nat) (due:Pre×Nat) (e:Option Addr) (h0:vs=[.ref bd,.ref pt]) (h1:SqT K H pt ((flat p++[(k:Int)]).map V.int)) (h2:Stands H bd p k due e) (h3:p.length<=40) (q:∀pt' H',Same H H'->SqT K H' pt' ((flat due.1++[(due.2:Int)]).map V.int)->Q (.ref pt') H'):spSettled K vs H Q E
inductive SW (K:Ab) (H:Hp) (bd:Addr) (due:Pre×Nat) (e:Option Addr) (m:Nat) (σ:St) (H1:Hp):Prop
 | mk (pt:Addr) (p:Pre) (k:Nat) (e1:Same H H1) (h1:SqT K H1 pt ((flat p++[(k:Int)]).map V.int)) (h2:Stands H1 bd p k due e) (hm:p.length=m) (h3:m<=40) (hσ:σ=[some (.ref bd),some (.ref pt)])
theorem scSettled:FnScope ["body","path"] ["body","path"] (aq pe):=⟨rfl,rfl,rfl,by decide +kernel,rfl,by decide +kernel,by decide +kernel⟩
theorem a1e (C:Con K mg w) (F:Fun K "settled" "settled" pe f fd) (GL:FnOk P w K mg base CX0 2 gL dL ["body","path"] (spListOf K)) (cL:Cal K mg "list_of" gL dL ["body","path"]) (GF:FnOk P w K mg base CX0 3 gF dF ["body","path"] (spFound K)) (cF:Cal K mg "found_at" gF dF ["body","path"]) (GB:FnOk P w K mg base CX0 1 gB dB ["path"] (spBehind K)) (cB:Cal K mg "behind_deed" gB dB ["path"]):FnOk P w K mg base CX0 4 f fd ["body","path"] (spSettled K):=by
 refine F.okQ scSettled (fun vs H Q E h=>?_) (fun cdv A outer s0 H vs Q E hr h=>?_)
 . obtain⟨bd,pt,p,k,due,e,rfl,_⟩:=h;rfl
 obtain⟨bd,pt,p,k,due,e,rfl,hpt,hst,hp,q⟩:=h
 have nd:=scSettled.nd
 have hr1:=hr.mono (j:=1) (by omega)
 have hr2:=hr.mono (j:=2) (by omega)
 refine⟨_,af (kj AM (QW.qt (jf (ay qh (bc dt rfl C.len Bk (ak (qv 1) ad)) ac (az _)) (ik (ay bp (ah au (qv 1) (c5 bw ac) (fun _ _=>rfl)) (bc dt rfl C.len Bk (b5 (ar GL hr2 rfl cL.name cL.keep cL.bind .nil ap (ak (qv 0) (ak (qv 1) ad))) ad)) (az _))))) (af (aw (i:=1) nd rfl (Or.inl rfl) (c4 gt (qv 1) ca (cb (c5 bw ac))))
   (ai (bf (ay bp (ah au (ar GF hr rfl cF.name cF.keep cF.bind .nil ap (ak (qv 0) (ak (qv 1) ad))) ac (fun _ _=>rfl)) b6 (az _)) (ai (aw (i:=1) nd rfl (Or.inl rfl) (ar GB hr1 rfl cB.name cB.keep cB.bind .nil ap (ak (qv 1) ad)))) bo))))
   (ai (b0 (qv 1))),?_⟩
 refine ao (a:=xi _ _) fun D1 hN1 hR1 hC1=>?_
 refine⟨SW K H bd due e,⟨p.length,pt,p,k,Same.refl _,hpt,hst,rfl,hp,rfl⟩,?_⟩
 rintro m σ H1 ⟨pt,p,k,e1,h1,h2,rfl,h3,rfl⟩
 have hlen:(((flat p++[(k:Int)]).map V.int).length:Int)=2*(p.length:Int)+1:=by rw[Ad,Ag,l9];simp
 have out:∀H2,Same H1 H2->due=(p,k)->D1.nx [some (.ref bd),some (.ref pt)] H2:=fun H2 e2 hd=>by
   refine hN1 _ _ ⟨_,rfl,?_⟩
   subst hd
   exact q pt H2 (e1.trans e2) (e2.seqT h1)
 refine⟨_,rfl,pt,_,rfl,.inr h1,_,_,rfl,rfl,_,rfl,iteB (fun c1=>?_) (fun c1=>?_)⟩
 . have c1':(1:Int)<(((flat p++[(k:Int)]).map V.int).length:Int):=of_decide_eq_true c1
   have hp0:p≠[]:=fun z=>by rw[hlen,z] at c1';exact absurd c1' (by decide)
   obtain⟨l,ts,hl,hts,hk⟩:∃(l:Addr) (ts:List Addr),LFrom H1 bd p l/\H1 l=some (.lst (ts.map V.ref))/\((k<ts.length/\due=(p,k))\/(k=ts.length/\LEnd H1 bd p l due e)):=by
     rcases h2 with⟨l,t,ts,hl,h,hk,hd,he⟩|⟨l,ts,hl,h,hk⟩
     . exact⟨l,ts,hl,h,.inl ⟨(Ao.mp hk).1,hd⟩⟩
     . exact⟨l,ts,hl.from,h,.inr ⟨hk,hl⟩⟩
   have h1':=h1
   rw[Az] at h1'
   refine⟨_,rfl,_,rfl,pt,_,_,_,rfl,rfl,h1',bh,_,rfl,_,rfl,bd,pt,l,p,k,rfl,h1,hl,(by omega),fun H2 e2=>⟨l,_,rfl,.inl (SqL.of (e2 _ _ hts)),rfl,_,rfl,iteB (fun c2=>?_) (fun c2=>?_)⟩⟩
   . have hkl:k=ts.length:=by
       have:=V.int.inj (of_decide_eq_true c2)
       rw[Ad] at this;omega
     have hE:LEnd H1 bd p l due e:=by
       rcases hk with⟨z,_⟩|⟨_,z⟩
       . omega
       . exact z
     obtain⟨p',k',s',l',t,ts',rfl,hl',hts',hkt,hor⟩:=hE.up hp0
     refine⟨fun σ' H'=>∃m',m'<(p'++[(k',s')]).length/\SW K H bd due e m' σ' H',fun _ _ z=>z,?_⟩
     have hpl:(p'++[(k',s')]).length=p'.length+1:=by rw[Ag];rfl
     have hcut:cutV ((flat (p'++[(k',s')])++[(k:Int)]).map V.int) none (some (-(2:Int)))=(flat p'++[(k':Int)]).map V.int:=by
       rw[x9,show (flat p'++flat [(k',s')]++[(k:Int)])=(flat p'++[(k':Int)])++[(s':Int),(k:Int)] by simp[flat],Az]
       exact a01 _ _ (m:=2) rfl (by decide)
     refine⟨_,rfl,_,rfl,_,rfl,pt,_,rfl,e2.seqT h1,fun p1 H3 e3 h3'=>?_⟩
     rw[hcut] at h3'
     have e13:=e2.trans e3
     refine⟨_,rfl,_,rfl,bd,p1,l',p',k',ts',rfl,h3',hl'.same e13,(by omega),e13 _ _ hts',fun t2 H4 ht2 e4=>?_,fun H4 hn e4=>by rw[hkt] at hn;cases hn⟩
     rw[hkt] at ht2;cases ht2
     have e14:=e13.trans e4
     rcases hor with⟨c,i,o,ht,hS⟩|⟨c,d,i,ht,hS⟩
     . refine⟨t,_,0,_,rfl,rfl,SqT.of (e14 _ _ ht),rfl,rfl,_,rfl,iteB (fun _=>?_) (fun c=>absurd c (by decide +kernel))⟩
       refine⟨_,rfl,p1,flat p',(k':Int),rfl,e4.seqT h3',by rw[l9];omega,fun p2 H5 e5 h5=>?_⟩
       exact⟨p'.length,by omega,p2,p',k'+1,(e1.trans e14).trans e5,by rw[show ((k'+1:Nat):Int)=(k':Int)+1 by omega];exact h5,hS.same (e14.trans e5),rfl,by omega,rfl⟩
     . refine⟨t,_,0,_,rfl,rfl,SqT.of (e14 _ _ ht),rfl,rfl,_,rfl,iteB (fun c=>absurd c (by decide +kernel)) (fun _=>?_)⟩
       exact⟨p'.length,by omega,p1,p',k',e1.trans e14,e4.seqT h3',hS.same e14,rfl,by omega,rfl⟩
   . have hkl:¬ k=ts.length:=fun z=>of_decide_eq_false c2 (by rw[z,Ad])
     rcases hk with⟨_,z⟩|⟨z,_⟩
     . exact out H2 e2 z
     . exact absurd z hkl
 . have c1':¬ (1:Int)<(((flat p++[(k:Int)]).map V.int).length:Int):=of_decide_eq_false c1
   have hp0:p=[]:=Bi (by omega)
   refine (if_neg Am).mpr (out H1 (Same.refl _) ?_)
   rcases h2 with⟨l,t,ts,hl,h,hk,hd,he⟩|⟨l,ts,hl,h,hk⟩
   . exact hd
   . obtain⟨ts',rfl,h',rfl,_⟩:=hl.zero hp0
     rw[a4x h h'] at hk
     rw[hp0,hk]
noncomputable abbrev xt:Stmt:=top 9
noncomputable abbrev lx:Stmt:=top 18
noncomputable def places:List (Str×V):=[("read",.int 2),("write",.int 1),("free",.int 1)]
inductive spNumOf (vs:List V) (H:Hp) (Q:VK) (E:XK):Prop
 | nil (d:Addr) (h0:vs=[.ref d,.str "nil"]) (q:Q (.int 0) H):spNumOf vs H Q E
 | name (d:Addr) (kvs:List (Key×V)) (x:Str) (v:V) (h0:vs=[.ref d,.str x]) (hx:x ≠ "nil") (h1:H d=some (.dK kvs)) (h2:valV kvs (Sum.inr x)=some v) (q:Q v H):spNumOf vs H Q E
inductive spCellName (K:Ab) (vs:List V) (H:Hp) (Q:VK) (E:XK):Prop
 | none (t:Addr) (w:Str) (us:List V) (h0:vs=[.ref t]) (h1:SqT K H t (.str w::us)) (h2:places.lookup w=none) (q:Q .non H):spCellName K vs H Q E
 | some (t:Addr) (w:Str) (us:List V) (k:Nat) (v:V) (h0:vs=[.ref t]) (h1:SqT K H t (.str w::us)) (h2:places.lookup w=some (.int (k:Int))) (h3:(V.str w::us)[k]? = some v) (q:Q v H):spCellName K vs H Q E
theorem scNumOf:FnScope ["values","word"] ["values","word"] (aq xt):=⟨rfl,rfl,rfl,by decide +kernel,rfl,by decide +kernel,by decide +kernel⟩
theorem a51 (C:Con K mg w) (F:Fun K "number_of" "number_of" xt f fd):FnOk P w K mg base CX0 1 f fd ["values","word"] spNumOf:=by
 refine F.okQ scNumOf (fun vs H Q E h=>?_) (fun cdv A outer s0 H vs Q E hr h=>?_)
 . rcases h with⟨_,rfl,_⟩|⟨_,_,_,_,rfl,_⟩<;>rfl
 have nd:=scNumOf.nd
 have hu1:=dw hr
 refine⟨_,(ai (b0 (gb (ay bp (qv 1) b6 (az _)) ac (em hu1 (qv 0) (qv 1) (fun _ _=>rfl))))),?_⟩
 rcases h with⟨d,rfl,q⟩|⟨d,kvs,x,v,rfl,hx,h1,h2,q⟩
 . exact⟨_,rfl,rfl,_,rfl,iteB (fun _=>q) (fun c=>absurd c (by simp))⟩
 . refine⟨_,rfl,rfl,_,rfl,iteB (fun c=>absurd (V.str.inj (of_decide_eq_true c)) hx) (fun _=>?_)⟩
   have hg:=DGet.k (k:=Sum.inr x) h1
   rw[h2] at hg
   exact⟨_,rfl,_,rfl,d,v,rfl,hg,q⟩
theorem scCellName:FnScope ["deed","place"] ["deed"] (aq lx):=⟨rfl,rfl,rfl,by decide +kernel,rfl,by decide +kernel,by decide +kernel⟩
theorem y6 (C:Con K mg w) (F:Fun K "cell_name" "cell_name" lx f fd):FnOk P w K mg base CX0 1 f fd ["deed"] (spCellName K):=by
 refine F.okQ scCellName (fun vs H Q E h=>?_) (fun cdv A outer s0 H vs Q E hr h=>?_)
 . rcases h with⟨_,_,_,rfl,_⟩|⟨_,_,_,_,_,rfl,_⟩<;>rfl
 have nd:=scCellName.nd
 obtain⟨aP,gP,kP⟩:=C.places
 refine⟨_,af (aw (i:=1) nd rfl (Or.inl rfl) (a7p (qe_g gP) (av (ah au (qv 0) ac (fun _ _=>rfl)) ad)))
   (ai (b0 (gb (ay wg (qv 1) i6 (az _)) i6 (ah au (qv 0) (qv 1) (fun _ _=>rfl))))),?_⟩
 rcases h with⟨t,w',us,rfl,h1,h2,q⟩|⟨t,w',us,k,v,rfl,h1,h2,h3,q⟩
 . have h2':([("read",.int 2),("write",.int 1),("free",.int 1)]:List (Str×V)).lookup w'=Option.none:=h2
   refine⟨aP,_,rfl,kP,_,rfl,t,_,0,_,rfl,rfl,h1,at0,w',rfl,?_⟩
   rw[h2']
   exact⟨_,rfl,rfl,_,rfl,iteB (fun _=>q) (fun c=>absurd c (by simp))⟩
 . have h2':([("read",.int 2),("write",.int 1),("free",.int 1)]:List (Str×V)).lookup w'=Option.some (.int (k:Int)):=h2
   refine⟨aP,_,rfl,kP,_,rfl,t,_,0,_,rfl,rfl,h1,at0,w',rfl,?_⟩
   rw[h2']
   exact⟨_,rfl,rfl,_,rfl,iteB (fun c=>absurd c (by simp)) (fun _=>⟨_,rfl,_,rfl,t,_,_,_,rfl,rfl,h1,bn h3,q⟩)⟩
theorem b4 {X:Cx}{K:Ab}{e:Expr}{fl:Str}{pos:Pos}{ta:TE}(h:X.K=K) (he:QE X e ta) (hb:attributeBase e fl X.env (eval e X.env)=eval e X.env:=by rfl):QE X (.Attribute e fl pos) (tFld K ta fl):=by subst h;exact a9h he hb
theorem dn {X:Cx}{K:Ab}{o value:Expr}{fl:Str}{pos pos':Pos}{ta tv:TE}(h:X.K=K) (ha:QE X o ta) (hv:QE X value tv) (hs:swapsWith value (some (.Attribute o fl pos')) pos.line X.env=pure false:=by rfl):QS X (.Assign [.Attribute o fl pos'] value pos) (sFld K ta tv fl):=by subst h;exact aah ha hv hs
noncomputable abbrev ww:Stmt:=cw (top 29) 0
noncomputable abbrev x6:Stmt:=cw (top 29) 1
noncomputable abbrev wu:Stmt:=cw (top 29) 2
noncomputable abbrev a0j:Stmt:=cw (top 29) 3
structure TxF (K:Ab) (mg:Str->Option Value) (C fI:Addr):Prop where
 cl:Cls K C
 nP:NoAttr K C "procedure"
 nA:NoAttr K C "path"
 nN:NoAttr K C "numbers"
 nR:NoAttr K C "receiver"
 mgC:mg "Frame" = some (.ref C)
 mkC:Mk K C fI
structure MCal (K:Ab) (C:Addr) (m:Str) (f:Addr) (fd:FuncData) (ps:List Str):Prop where
 meth:Meth K C m f
 bind:Binds K fd ps []
structure FFs (fs:List (Str×V)) (pr pt nd:Addr) (rc:Str):Prop where
 procedure:fs.lookup ("procedure" : Str)=some (.ref pr)
 path:fs.lookup ("path" : Str)=some (.ref pt)
 numbers:fs.lookup ("numbers" : Str)=some (.ref nd)
 receiver:fs.lookup ("receiver" : Str)=some (.str rc)
 len:fs.length<100
 meth:∀m∈([("deed" : Str),"move","number"]:List Str),fs.lookup m=none
theorem a9u:∀m∈([("deed" : Str),"move","number"]:List Str),m≠("path" : Str):=by decide +kernel
theorem a91:("procedure" : Str) ≠ "path" /\ ("numbers" : Str) ≠ "path" /\ ("receiver" : Str) ≠ "path" := by decide +kernel
theorem FFs.path' {fs:List (Str×V)}{pr pt nd:Addr}{rc:Str}(h:FFs fs pr pt nd rc) (hl:fs.length<50) (q:Addr):FFs (putF "path" (.ref q) fs) pr q nd rc:=by
 obtain⟨n1,n2,n3⟩:=a91
 refine⟨?_,?_,?_,?_,?_,fun m hm=>?_⟩
 . rw[am,if_neg n1];exact h.procedure
 . rw[am,if_pos rfl]
 . rw[am,if_neg n2];exact h.numbers
 . rw[am,if_neg n3];exact h.receiver
 . have:=bb "path" (.ref q) fs;omega
 . rw[am,if_neg (a9u m hm)];exact h.meth m hm
noncomputable def qf (C:Addr):Sp:=fun vs H Q E=>∃(p dx pr pt nd:Addr) (fs:List (Str×V)) (rc x:Str),vs=[.ref p,.str x]/\H p=some (.ins C dx fs)/\FFs fs pr pt nd rc/\spNumOf [.ref nd,.str x] H Q E0
noncomputable def o0 (K:Ab) (C:Addr):Sp:=fun vs H Q E=>∃(p dx pr pt nd bd:Addr) (fs:List (Str×V)) (rc:Str) (v0 v1 v2 v3 v4:V),vs=[.ref p]/\H p=some (.ins C dx fs)/\FFs fs pr pt nd rc/\H pr=some (.tup [v0,v1,v2,v3,v4,.ref bd])/\spFound K [.ref bd,.ref pt] H Q E0
theorem scFNum:FnScope ["self","word"] ["self","word"] (aq a0j):=⟨rfl,rfl,rfl,by decide +kernel,rfl,by decide +kernel,by decide +kernel⟩
theorem a7n (T:TxF K mg C fI) (F:Fun K "number" "Frame.number" a0j f fd) (GN:FnOk P w K mg base CX0 1 gN dN ["values","word"] spNumOf) (cN:Cal K mg "number_of" gN dN ["values","word"]):FnOk P w K mg base CX0 2 f fd ["self","word"] (qf C):=by
 refine F.okQ scFNum (fun vs H Q E h=>?_) (fun cdv A outer s0 H vs Q E hr h=>?_)
 . obtain⟨p,dx,pr,pt,nd,fs,rc,x,rfl,_⟩:=h;rfl
 obtain⟨p,dx,pr,pt,nd,fs,rc,x,rfl,hp,hf,q⟩:=h
 have nd:=scFNum.nd
 refine⟨_,(ai (b0 (ar GN hr rfl cN.name cN.keep cN.bind .nil ap (cg (b4 (K:=K) rfl (qv 0)) (ak (qv 1) ad))))),?_⟩
 exact⟨_,rfl,p,C,dx,fs,_,rfl,hp,T.cl,T.nN,hf.numbers,_,rfl,q⟩
theorem scFDeed:FnScope ["self"] ["self"] (aq x6):=⟨rfl,rfl,rfl,by decide +kernel,rfl,by decide +kernel,by decide +kernel⟩
theorem a5q (T:TxF K mg C fI) (F:Fun K "deed" "Frame.deed" x6 f fd) (GF:FnOk P w K mg base CX0 3 gF dF ["body","path"] (spFound K)) (cF:Cal K mg "found_at" gF dF ["body","path"]):FnOk P w K mg base CX0 4 f fd ["self"] (o0 K C):=by
 refine F.okQ scFDeed (fun vs H Q E h=>?_) (fun cdv A outer s0 H vs Q E hr h=>?_)
 . obtain⟨p,dx,pr,pt,nd,bd,fs,rc,v0,v1,v2,v3,v4,rfl,_⟩:=h;rfl
 obtain⟨p,dx,pr,pt,nd,bd,fs,rc,v0,v1,v2,v3,v4,rfl,hp,hf,hpr,q⟩:=h
 have nd:=scFDeed.nd
 refine⟨_,(ai (b0 (ar GF hr rfl cF.name cF.keep cF.bind .nil ap (av (ah au (b4 (K:=K) rfl (qv 0)) ac (fun _ _=>rfl)) (cg (b4 (K:=K) rfl (qv 0)) ad))))),?_⟩
 exact⟨_,rfl,p,C,dx,fs,_,rfl,hp,T.cl,T.nP,hf.procedure,pr,_,5,_,rfl,rfl,SqT.of hpr,rfl,_,rfl,p,C,dx,fs,_,rfl,hp,T.cl,T.nA,hf.path,q⟩
noncomputable def sk (K:Ab) (C:Addr):Sp:=fun vs H Q E=>∃(p dx pr pt nd bd q0:Addr) (fs:List (Str×V)) (rc:Str) (v0 v1 v2 v3 v4:V) (pp:Pre) (k:Nat) (due:Pre×Nat) (e:Option Addr),vs=[.ref p,.ref q0]/\H p=some (.ins C dx fs)/\FFs fs pr pt nd rc/\fs.length<50/\H pr=some (.tup [v0,v1,v2,v3,v4,.ref bd])/\SqT K H q0 ((flat pp++[(k:Int)]).map V.int)/\Stands H bd pp k due e/\pp.length<=40/\
 ∀q1 fs' H',Same H H'->SqT K H' q1 ((flat due.1++[(due.2:Int)]).map V.int)->FFs fs' pr q1 nd rc->fs'.length<=fs.length+1->(∀f,f≠("path" : Str)->fs'.lookup f=fs.lookup f)->Q .non (upd H' p (.ins C dx fs'))
theorem scFMove:FnScope ["self","path"] ["self","path"] (aq wu):=⟨rfl,rfl,rfl,by decide +kernel,rfl,by decide +kernel,by decide +kernel⟩
theorem a69 (T:TxF K mg C fI) (F:Fun K "move" "Frame.move" wu f fd) (GS:FnOk P w K mg base CX0 4 gS dS ["body","path"] (spSettled K)) (cS:Cal K mg "settled" gS dS ["body","path"]):FnOk P w K mg base CX0 5 f fd ["self","path"] (sk K C):=by
 refine F.okQ scFMove (fun vs H Q E h=>?_) (fun cdv A outer s0 H vs Q E hr h=>?_)
 . obtain⟨p,dx,pr,pt,nd,bd,q0,fs,rc,v0,v1,v2,v3,v4,pp,k,due,e,rfl,_⟩:=h;rfl
 obtain⟨p,dx,pr,pt,nd,bd,q0,fs,rc,v0,v1,v2,v3,v4,pp,k,due,e,rfl,hp,hf,hl,hpr,hq,hst,hpl,q⟩:=h
 have nd:=scFMove.nd
 refine⟨_,(ai (dn (K:=K) rfl (qv 0) (ar GS hr rfl cS.name cS.keep cS.bind .nil ap (av (ah au (b4 (K:=K) rfl (qv 0)) ac (fun _ _=>rfl)) (ak (qv 1) ad))))),?_⟩
 refine⟨_,rfl,p,C,dx,fs,_,rfl,hp,T.cl,T.nP,hf.procedure,pr,_,5,_,rfl,rfl,SqT.of hpr,rfl,_,rfl,bd,q0,pp,k,due,e,rfl,hq,hst,hpl,fun q1 H1 e1 h1=>?_⟩
 refine⟨_,rfl,p,C,dx,fs,rfl,e1 _ _ hp,T.cl,T.nA,by omega,?_⟩
 exact q q1 _ H1 e1 h1 (hf.path' hl q1) (bb _ _ _) fun f hf'=>by rw[am,if_neg hf']
noncomputable def ee (kvs:List (Key×V)) (zs:List Str):List (Str×V):=zs.map fun z=>(z,(valV kvs (Sum.inr z)).getD (.int 0))
inductive spFInit (K:Ab) (C:Addr) (bs:List Nat) (vs:List V) (H:Hp) (Q:VK) (E:XK):Prop
 | mk (G:Hp) (p dx t q0 nm bd:Addr) (rc:Str) (pc:Prc) (xs:List Str) (v0 v1 v2 v3 v4:V) (kvs:List (Key×V)) (pp:Pre) (k:Nat) (due:Pre×Nat) (e:Option Addr) (h0:vs=[.ref p,.ref t,.ref q0,.ref nm,.str rc]) (eG:Same G H) (hp:G p=none) (hp1:H p=some (.ins C dx [])) (h1:PrcAt K G bs t pc) (h2:PrcOk bs xs pc) (hbd:G t=some (.tup [v0,v1,v2,v3,v4,.ref bd])) (h3:SqT K G q0 ((flat pp++[(k:Int)]).map V.int)) (h4:Stands G bd pp k due e) (h5:pp.length<=40) (h6:G nm=some (.dK kvs))
     (q:∀q1 nd fs zs H',Same G H'->H' p=some (.ins C dx fs)->FFs fs t q1 nd rc->fs.length<=4->SqT K H' q1 ((flat due.1++[(due.2:Int)]).map V.int)->H nd=none->H' nd=some (.dK ((ee kvs zs).map kk))->zs.Nodup->DK zs=true->(∀y,y∈zs↔b9 y=true/\y∈allW bs pc)->Q .non H'):spFInit K C bs vs H Q E
theorem a7m:("procedure" : Str) ≠ "path" /\ ("procedure" : Str) ≠ "numbers" /\ ("procedure" : Str) ≠ "receiver" /\ ("path" : Str) ≠ "numbers" /\ ("path" : Str) ≠ "receiver" /\ ("numbers" : Str) ≠ "receiver" := by decide +kernel
theorem abb:∀m∈([("deed" : Str),"move","number"]:List Str),m≠("procedure" : Str)/\m≠("path" : Str)/\m≠("numbers" : Str)/\m≠("receiver" : Str):=by decide +kernel
theorem a99 (pr pt nd:Addr) (rc:Str):FFs (putF "receiver" (.str rc) (putF "numbers" (.ref nd) (putF "path" (.ref pt) (putF "procedure" (.ref pr) [])))) pr pt nd rc/\(putF "receiver" (.str rc) (putF "numbers" (.ref nd) (putF "path" (.ref pt) (putF "procedure" (.ref pr) [])))).length<=4:=by
 obtain⟨n1,n2,n3,n4,n5,n6⟩:=a7m
 have h1:=bb "procedure" (.ref pr) []
 have h2:=bb "path" (.ref pt) (putF "procedure" (.ref pr) [])
 have h3:=bb "numbers" (.ref nd) (putF "path" (.ref pt) (putF "procedure" (.ref pr) []))
 have h4:=bb "receiver" (.str rc) (putF "numbers" (.ref nd) (putF "path" (.ref pt) (putF "procedure" (.ref pr) [])))
 simp only[EA] at h1
 refine⟨⟨?_,?_,?_,?_,by omega,fun m hm=>?_⟩,by omega⟩
 . rw[am,if_neg n3,am,if_neg n2,am,if_neg n1,am,if_pos rfl]
 . rw[am,if_neg n5,am,if_neg n4,am,if_pos rfl]
 . rw[am,if_neg n6,am,if_pos rfl]
 . rw[am,if_pos rfl]
 . obtain⟨m1,m2,m3,m4⟩:=abb m hm
   rw[am,if_neg m4,am,if_neg m3,am,if_neg m2,am,if_neg m1];rfl
theorem qz {K:Ab}{D:Addr}{H:Hp}{kvs:List (Key×V)}:∀{us:List Addr}{zs:List Str},Paired (fun b (z:Str)=>b≠D/\H b=some (.tup [.str z,(valV kvs (Sum.inr z)).getD (.int 0)])) us zs->Paired (fun t (kv:Str×V)=>SqT K H t [.str kv.1,kv.2]) us (ee kvs zs)
 | _,_,.nil=>.nil
 | _,_,.cons h r=>.cons (SqT.of h.2) (qz r)
theorem scFInit:FnScope ["self","procedure","path","numbers","receiver"] ["self","procedure","path","numbers","receiver"] (aq ww):=⟨rfl,rfl,rfl,by decide +kernel,rfl,by decide +kernel,by decide +kernel⟩
theorem a6h {n:Nat}{bs:List Nat}(hn:4<=n) (C':Con K mg w) (T:TxF K mg C fI) (F:Fun K "__init__" "Frame.__init__" ww f fd) (GS:FnOk P w K mg base CX0 4 gS dS ["body","path"] (spSettled K)) (cS:Cal K mg "settled" gS dS ["body","path"]) (GN:FnOk P w K mg base CX0 n gN dN ["procedure"] (spNamesIn K bs)) (cN:Cal K mg "names_in" gN dN ["procedure"]):FnOk P w K mg base CX0 (n+1) f fd ["self","procedure","path","numbers","receiver"] (spFInit K C bs):=by
 refine F.okQ scFInit (fun vs H Q E h=>?_) (fun cdv A outer s0 H vs Q E hr h=>?_)
 . obtain⟨G,p,dx,t,q0,nm,bd,rc,pc,xs,v0,v1,v2,v3,v4,kvs,pp,k,due,e,rfl,_⟩:=h;rfl
 obtain⟨G,p,dx,t,q0,nm,bd,rc,pc,xs,v0,v1,v2,v3,v4,kvs,pp,k,due,e,rfl,eG,hp,hp1,h1,h2,hbd,h3,h4,h5,h6,q⟩:=h
 have nd:=scFInit.nd
 have hr4:=hr.mono (j:=4) (by omega)
 have hu1:=dw hr
 refine⟨_,af (dn (K:=K) rfl (qv 0) (qv 1))
   (af (dn (K:=K) rfl (qv 0) (ar GS hr4 rfl cS.name cS.keep cS.bind .nil ap (av (ah au (qv 1) ac (fun _ _=>rfl)) (ak (qv 2) ad))))
   (af (dn (K:=K) rfl (qv 0) (be (qg (K:=K) rfl rfl) rfl C'.dict BW (cg (a5w ["name","numbers"] [3] (fk (ar GN hr rfl cN.name cN.keep cN.bind .nil ap (ak (qv 1) ad))) (fun _ _ _ _=>il) (fun _ _ _ _=>(fe (ak (qv 0) (b5 (a6c hu1 (qv 1) (qv 0) ac) ad))))) ad)))
   (ai (dn (K:=K) rfl (qv 0) (qv 4))))),?_⟩
 have small:∀{n:Nat},n<=10->n<1000:=fun h=>by omega
 refine⟨_,rfl,_,rfl,p,C,dx,_,rfl,hp1,T.cl,T.nP,small (A8 _),?_⟩
 have g1:Same G (upd H p (.ins C dx (putF "procedure" (.ref t) []))):=fun b o z=>by rw[ae (aj z hp)];exact eG _ _ z
 have k1:(upd H p (.ins C dx (putF "procedure" (.ref t) []))) p=some (.ins C dx (putF "procedure" (.ref t) [])):=aa
 have f1:∀c,(upd H p (.ins C dx (putF "procedure" (.ref t) []))) c=none->H c=none:=fun c z=>by
   by_cases y:c=p
   . rw[y,aa] at z;cases z
   . rw[ae y] at z;exact z
 generalize upd H p (.ins C dx (putF "procedure" (.ref t) []))=H1 at g1 k1 f1 |-
 have l1:=bb "procedure" (.ref t) []
 simp only[EA] at l1
 refine⟨_,rfl,t,_,5,_,rfl,rfl,SqT.of (g1 _ _ hbd),rfl,_,rfl,bd,q0,pp,k,due,e,rfl,g1.seqT h3,h4.same g1,h5,fun q1 H2 e2 hq1=>?_⟩
 have l2:=bb "path" (.ref q1) (putF "procedure" (.ref t) [])
 refine⟨_,rfl,p,C,dx,_,rfl,e2 _ _ k1,T.cl,T.nA,small (by omega),?_⟩
 have g2:=g1.trans e2
 have g3:Same G (upd H2 p (.ins C dx (putF "path" (.ref q1) (putF "procedure" (.ref t) [])))):=fun b o z=>by rw[ae (aj z hp)];exact g2 _ _ z
 have k3:(upd H2 p (.ins C dx (putF "path" (.ref q1) (putF "procedure" (.ref t) [])))) p=some (.ins C dx (putF "path" (.ref q1) (putF "procedure" (.ref t) []))):=aa
 have f3:∀c,(upd H2 p (.ins C dx (putF "path" (.ref q1) (putF "procedure" (.ref t) [])))) c=none->H c=none:=fun c z=>by
   by_cases y:c=p
   . rw[y,aa] at z;cases z
   . rw[ae y] at z;exact f1 c (e2.free z)
 have put:∀{H':Hp} {fs fs':List (Str×V)} {a:Addr} {ys:List V},H' p=some (.ins C dx fs)->SqT K H' a ys->SqT K (upd H' p (.ins C dx fs')) a ys:=fun {H' fs fs' a ys} hp' h=>by
   rcases h with (h|⟨o,h⟩)|h
   . exact .inl (.inl (by rw[ae (fun z=>by rw[z,hp'] at h;cases h)];exact h))
   . exact .inl (.inr ⟨o,by rw[ae (fun z=>by rw[z,hp'] at h;cases h)];exact h⟩)
   . exact .inr h
 have hq3:=put (fs':=putF "path" (.ref q1) (putF "procedure" (.ref t) [])) (e2 _ _ k1) hq1
 generalize upd H2 p (.ins C dx (putF "path" (.ref q1) (putF "procedure" (.ref t) [])))=H3 at g3 k3 f3 hq3 |-
 refine⟨_,rfl,G,t,pc,xs,rfl,g3,h1,h2,fun zl zs H4 e4 hzl kz hzn hzs hzm=>?_⟩
 have g4:=g3.trans e4
 have hzl20:zs.length<=20:=A0 (Bg hzn fun y hy=>h2.names y ((hzm y).mp hy).2 ((hzm y).mp hy).1) h2.len
 refine⟨zl,rfl,⟨_,SqL.of kz⟩,?_⟩
 refine i8 (zs.map V.str) zs (fun D G' y (z:Str)=>∃b,y=V.ref b/\b≠D/\G' b=some (.tup [.str z,(valV kvs (Sum.inr z)).getD (.int 0)])) id i7 (SqL.of kz) (by rw[Ad];omega) (by rw[Ad]) (fun D G1 G2 y x z e=>?_) (fun D hD j x r hx hr' H5 e5 hD2 Q' q'=>?_) (fun D H5 ys hD e5 hD2 hpt=>?_)
 . obtain⟨b,rfl,nb,hb⟩:=z
   exact⟨b,rfl,nb,e _ _ hb nb⟩
 . have hx':x=.str r:=by rw[Ai,hr'] at hx;exact (Ay hx).symm
   subst hx'
   have h6':=(g4.trans e5) _ _ h6
   have g:=DGet.k (k:=Sum.inr r) h6'
   refine⟨_,rfl,_,rfl,nm,rfl,.inl ⟨_,.inl h6'⟩,_,rfl,_,g,(show 2<=sizeLine by decide),fun b hb=>q' (.ref b) _ (ag hb _) ⟨b,rfl,fun z=>?_,aa⟩⟩
   rw[z] at hb;exact hD2 hb
 rw[Dv] at hpt
 obtain⟨us,rfl,hpp⟩:=ft (R:=fun b (z:Str)=>b≠D/\H5 b=some (.tup [.str z,(valV kvs (Sum.inr z)).getD (.int 0)])) hpt
 have hul:=Ax hpp
 refine⟨D,us,ee kvs zs,rfl,SqL.of hD2,qz hpp,?_,(by omega),fun nd' hnd'=>?_⟩
 . unfold ee
   rw[BO]
   have:(zs.map ((fun x=>x.1)∘fun z=>(z,(valV kvs (Sum.inr z)).getD (.int 0))))=zs:=by
     have e:((fun x:Str×V=>x.1)∘fun z:Str=>(z,(valV kvs (Sum.inr z)).getD (.int 0)))=id:=rfl
     rw[e,Dv]
   rw[this];exact hzn
 have e35:=e4.trans e5
 have s6:=ag hnd' (.dK ((ee kvs zs).map kk))
 have k6:(upd H5 nd' (.dK ((ee kvs zs).map kk))) nd'=some (.dK ((ee kvs zs).map kk)):=aa
 have nH:H nd'=none:=f3 _ (e35.free hnd')
 generalize upd H5 nd' (.dK ((ee kvs zs).map kk))=H6 at s6 k6 |-
 have e36:=e35.trans s6
 have k36:=e36 _ _ k3
 have l3:=bb "numbers" (.ref nd') (putF "path" (.ref q1) (putF "procedure" (.ref t) []))
 refine⟨_,rfl,p,C,dx,_,rfl,k36,T.cl,T.nN,small (by omega),?_⟩
 refine⟨_,rfl,_,rfl,p,C,dx,_,rfl,aa,T.cl,T.nR,small (by omega),?_⟩
 obtain⟨FF,fl⟩:=a99 t q1 nd' rc
 have npd:nd'≠p:=fun z=>by rw[z,k36] at k6;cases k6
 refine q q1 nd' _ zs _ (fun b o z=>?_) aa FF fl (put aa (put k36 (e36.seqT hq3))) nH ?_ hzn hzs hzm
 . rw[ae (aj z hp),ae (aj z hp)];exact (g3.trans e36) _ _ z
 . rw[ae npd,ae npd];exact k6
noncomputable abbrev vi:Stmt:=cw (top 30) 0
noncomputable abbrev vq:Stmt:=cw (top 30) 1
noncomputable abbrev wn:Stmt:=cw (top 30) 3
noncomputable abbrev wj:Stmt:=cw (top 30) 4
noncomputable abbrev x0:Stmt:=cw (top 30) 6
noncomputable abbrev rh:Stmt:=cw (top 30) 9
noncomputable abbrev oz:Stmt:=cw (top 30) 10
structure TxM (K:Ab) (mg:Str->Option Value) (C fI:Addr):Prop where
 cl:Cls K C
 nP:NoAttr K C "procedures"
 nF:NoAttr K C "frames"
 nC:NoAttr K C "cells"
 nG:NoAttr K C "greatest"
 nL:NoAttr K C "fallen"
 mgC:mg "Machine" = some (.ref C)
 mkC:Mk K C fI
noncomputable def lu:List Str:=["word","where","held","heap","go","step","branch","enter","leave_ended","change"]
structure MFs (fs:List (Str×V)) (pd fl cd:Addr) (g:Int) (b:Bool):Prop where
 procedures:fs.lookup ("procedures" : Str)=some (.ref pd)
 frames:fs.lookup ("frames" : Str)=some (.ref fl)
 cells:fs.lookup ("cells" : Str)=some (.ref cd)
 greatest:fs.lookup ("greatest" : Str)=some (.int g)
 fallen:fs.lookup ("fallen" : Str)=some (.bl b)
 len:fs.length<100
 meth:∀m∈lu,fs.lookup m=none
structure MaAt (CM CF:Addr) (H:Hp) (m pd fl cd p pr pt nd:Addr) (fps:List Addr) (g:Int) (b:Bool) (rc:Str):Prop where
 ob:∃dx fs,H m=some (.ins CM dx fs)/\MFs fs pd fl cd g b
 frs:H fl=some (.lst ((fps++[p]).map V.ref))
 fr:∃dx fs,H p=some (.ins CF dx fs)/\FFs fs pr pt nd rc/\fs.length<50
noncomputable def a4f (CM CF:Addr):Sp:=fun vs H Q E=>∃(m pd fl cd p pr pt nd:Addr) (fps:List Addr) (g:Int) (b:Bool) (rc:Str) (kvs:List (Key×V)),vs=[.ref m]/\MaAt CM CF H m pd fl cd p pr pt nd fps g b rc/\H nd=some (.dK kvs)/\∀a,H a=none->Q (.ref a) (upd H a (.dK kvs))
noncomputable def a3b (CM:Addr):Sp:=fun vs H Q E=>∃(m dx pd fl cd:Addr) (fs:List (Str×V)) (g:Int) (b:Bool) (kvs:List (Key×V)),vs=[.ref m]/\H m=some (.ins CM dx fs)/\MFs fs pd fl cd g b/\H cd=some (.dK kvs)/\∀a,H a=none->Q (.ref a) (upd H a (.dK kvs))
inductive spWord (K:Ab) (CM CF:Addr) (vs:List V) (H:Hp) (Q:VK) (E:XK):Prop
 | fall (m dx pd fl cd:Addr) (fs:List (Str×V)) (g:Int) (h0:vs=[.ref m]) (h1:H m=some (.ins CM dx fs)) (h2:MFs fs pd fl cd g true) (q:Q (.str "fall") H):spWord K CM CF vs H Q E
 | fine (m pd fl cd p pr pt nd bd l:Addr) (fps:List Addr) (g:Int) (rc:Str) (v0 v1 v2 v3 v4:V) (pp:Pre) (k:Nat) (ts:List Addr) (h0:vs=[.ref m]) (h1:MaAt CM CF H m pd fl cd p pr pt nd fps g false rc) (h2:H pr=some (.tup [v0,v1,v2,v3,v4,.ref bd])) (h3:SqT K H pt ((flat pp++[(k:Int)]).map V.int)) (h4:LFrom H bd pp l) (h5:pp.length<=100) (h6:H l=some (.lst (ts.map V.ref))) (q:∀H',Same H H'->Q (.str (if k<ts.length then "on" else "end")) H'):spWord K CM CF vs H Q E
theorem scHeld:FnScope ["self"] ["self"] (aq wn):=⟨rfl,rfl,rfl,by decide +kernel,rfl,by decide +kernel,by decide +kernel⟩
theorem a7x (C:Con K mg w) (T:TxM K mg CM fI) (U:TxF K mg CF fJ) (F:Fun K "held" "Machine.held" wn f fd):FnOk P w K mg base CX0 1 f fd ["self"] (a4f CM CF):=by
 refine F.okQ scHeld (fun vs H Q E h=>?_) (fun cdv A outer s0 H vs Q E hr h=>?_)
 . obtain⟨_,_,_,_,_,_,_,_,_,_,_,_,_,rfl,_⟩:=h;rfl
 obtain⟨m,pd,fl,cd,p,pr,pt,nd',fps,g,b,rc,kvs,rfl,⟨⟨dx,fs,hm,hfs⟩,hfl,⟨dx',fs',hp,hff,_⟩⟩,hn,q⟩:=h
 have nd:=scHeld.nd
 refine⟨_,(ai (b0 (be j6 rfl C.dict BW (cg (b4 (K:=K) rfl (ah et (b4 (K:=K) rfl (qv 0)) (c5 bw ac) (fun _ _=>rfl))) ad)))),?_⟩
 rw[Az] at hfl
 exact⟨_,rfl,m,CM,dx,fs,_,rfl,hm,T.cl,T.nF,hfs.frames,_,rfl,fl,_,_,_,rfl,rfl,SqL.of hfl,bh,p,CF,dx',fs',_,rfl,hp,U.cl,U.nN,hff.numbers,nd',kvs,rfl,hn,q⟩
theorem scHeap:FnScope ["self"] ["self"] (aq wj):=⟨rfl,rfl,rfl,by decide +kernel,rfl,by decide +kernel,by decide +kernel⟩
theorem a7r (C:Con K mg w) (T:TxM K mg CM fI) (F:Fun K "heap" "Machine.heap" wj f fd):FnOk P w K mg base CX0 1 f fd ["self"] (a3b CM):=by
 refine F.okQ scHeap (fun vs H Q E h=>?_) (fun cdv A outer s0 H vs Q E hr h=>?_)
 . obtain⟨_,_,_,_,_,_,_,_,_,rfl,_⟩:=h;rfl
 obtain⟨m,dx,pd,fl,cd,fs,g,b,kvs,rfl,hm,hfs,hc,q⟩:=h
 have nd:=scHeap.nd
 refine⟨_,(ai (b0 (be j6 rfl C.dict BW (cg (b4 (K:=K) rfl (qv 0)) ad)))),?_⟩
 exact⟨_,rfl,m,CM,dx,fs,_,rfl,hm,T.cl,T.nC,hfs.cells,cd,kvs,rfl,hc,q⟩
theorem scWord:FnScope ["self"] ["self"] (aq vq):=⟨rfl,rfl,rfl,by decide +kernel,rfl,by decide +kernel,by decide +kernel⟩
theorem a88 (C:Con K mg w) (T:TxM K mg CM fI) (U:TxF K mg CF fJ) (F:Fun K "word" "Machine.word" vq f fd) (GD:FnOk P w K mg base CX0 4 gD dD ["self"] (o0 K CF)) (cD:MCal K CF "deed" gD dD ["self"]):FnOk P w K mg base CX0 5 f fd ["self"] (spWord K CM CF):=by
 refine F.okQ scWord (fun vs H Q E h=>?_) (fun cdv A outer s0 H vs Q E hr h=>?_)
 . rcases h with⟨_,_,_,_,_,_,_,rfl,_⟩|⟨_,_,_,_,_,_,_,_,_,_,_,_,_,_,_,_,_,_,_,_,_,rfl,_⟩<;>rfl
 have nd:=scWord.nd
 refine⟨_,af (bf (ir (b4 (K:=K) rfl (qv 0))) (ai (b0 b6)) bo)
   (ai (b0 (gb (ay wg (cy (ah et (b4 (K:=K) rfl (qv 0)) (c5 bw ac) (fun _ _=>rfl)) U.cl cD.meth GD hr cD.bind .nil ap) i6 (az _)) b6 b6))),?_⟩
 rcases h with⟨m,dx,pd,fl,cd,fs,g,rfl,hm,hfs,q⟩|⟨m,pd,fl,cd,p,pr,pt,nd',bd,l,fps,g,rc,v0,v1,v2,v3,v4,pp,k,ts,rfl,⟨⟨dx,fs,hm,hfs⟩,hfl,⟨dx',fs',hp,hff,_⟩⟩,hpr,hpt,hlf,hpl,hts,q⟩
 . exact⟨_,rfl,m,CM,dx,fs,_,rfl,hm,T.cl,T.nL,hfs.fallen,_,rfl,iteB (fun _=>q) (fun c=>by cases c)⟩
 . refine⟨_,rfl,m,CM,dx,fs,_,rfl,hm,T.cl,T.nL,hfs.fallen,_,rfl,iteB (fun c=>by cases c) (fun _=>?_)⟩
   rw[Az] at hfl
   refine⟨_,rfl,m,CM,dx,fs,_,rfl,hm,T.cl,T.nF,hfs.frames,_,rfl,fl,_,_,_,rfl,rfl,SqL.of hfl,bh,p,dx',fs',rfl,hp,hff.meth _ (by simp),?_⟩
   refine⟨p,dx',pr,pt,nd',bd,fs',rc,v0,v1,v2,v3,v4,rfl,hp,hff,hpr,?_⟩
   refine⟨bd,pt,l,pp,k,ts,rfl,hpt,hlf,hpl,hts,fun t H' ht e=>?_,fun H' hn e=>?_⟩
   . have hk:=(Ao.mp ht).1
     have:=q H' e
     rw[if_pos hk] at this
     exact⟨rfl,_,rfl,iteB (fun c=>by cases of_decide_eq_true c) (fun _=>this)⟩
   . have hk:¬ k<ts.length:=fun z=>by rw[Af z] at hn;cases hn
     have:=q H' e
     rw[if_neg hk] at this
     exact⟨rfl,_,rfl,iteB (fun _=>this) (fun c=>absurd rfl (of_decide_eq_false c))⟩
theorem a76 {X:Cx}{e:Expr}:QE X e (fun _ _ _=>False):=⟨fun _ _ _ _ _ _ h=>h.elim⟩
noncomputable def numV (kvs:List (Key×V)) (x:Str):Option V:=if x = "nil" then some (.int 0) else valV kvs (Sum.inr x)
theorem lq {d:Addr}{H:Hp}{kvs:List (Key×V)}{x:Str}{v:V}{Q:VK}{E:XK}(h1:H d=some (.dK kvs)) (h2:numV kvs x=some v) (q:Q v H):spNumOf [.ref d,.str x] H Q E:=by
 unfold numV at h2
 by_cases hx:x = "nil"
 . rw[if_pos hx] at h2
   cases h2
   exact .nil d (by rw[hx]) q
 . rw[if_neg hx] at h2
   exact .name d kvs x v rfl hx h1 h2 q
inductive spChange (CM CF:Addr) (vs:List V) (H:Hp) (Q:VK) (E:XK):Prop
 | set (m p dx pr pt nd t:Addr) (fs:List (Str×V)) (rc x y:Str) (kvs:List (Key×V)) (v:V) (h0:vs=[.ref m,.ref p,.ref t]) (h1:H p=some (.ins CF dx fs)) (h2:FFs fs pr pt nd rc) (h3:H t=some (.tup [.str "set",.str x,.str y])) (h4:H nd=some (.dK kvs)) (h5:kvs.length<=100) (h6:numV kvs y=some v) (q:Q .non (upd H nd (.dK (putK kvs (Sum.inr x) v)))):spChange CM CF vs H Q E
 | free (m p dm dx pr pt nd pd fl cd t:Addr) (fm fs:List (Str×V)) (rc x:Str) (g:Int) (b:Bool) (kvs cvs:List (Key×V)) (i:Int) (c:V) (h0:vs=[.ref m,.ref p,.ref t]) (hm:H m=some (.ins CM dm fm)) (hM:MFs fm pd fl cd g b) (h1:H p=some (.ins CF dx fs)) (h2:FFs fs pr pt nd rc) (h3:H t=some (.tup [.str "free",.str x])) (h4:H nd=some (.dK kvs)) (h6:numV kvs x=some (.int i)) (h7:H cd=some (.dK cvs)) (h8:valV cvs (Sum.inl i)=some c) (q:Q .non (upd H cd (.dK (mv cvs (Sum.inl i))))):spChange CM CF vs H Q E
 | new (m p dm dx pr pt nd pd fl cd t:Addr) (fm fs:List (Str×V)) (rc x y z:Str) (g:Int) (b:Bool) (kvs cvs:List (Key×V)) (v1 v2:V) (h0:vs=[.ref m,.ref p,.ref t]) (hm:H m=some (.ins CM dm fm)) (hM:MFs fm pd fl cd g b) (hl:fm.length<50) (hne:m≠p) (hnc:nd≠cd) (h1:H p=some (.ins CF dx fs)) (h2:FFs fs pr pt nd rc) (h3:H t=some (.tup [.str "new",.str x,.str y,.str z])) (h4:H nd=some (.dK kvs)) (h5:kvs.length<=100) (h6:numV kvs y=some v1) (h6':numV kvs z=some v2) (h7:H cd=some (.dK cvs)) (h8:cvs.length<=900) (q:∀c,H c=none->Q .non (upd (upd (upd (upd H c (.tup [v1,v2])) m (.ins CM dm (putF "greatest" (.int (g+1)) fm))) cd (.dK (putK cvs (Sum.inl (g+1)) (.ref c)))) nd (.dK (putK kvs (Sum.inr x) (.int (g+1)))))):spChange CM CF vs H Q E
theorem a86:("procedures" : Str) ≠ "greatest" /\ ("frames" : Str) ≠ "greatest" /\ ("cells" : Str) ≠ "greatest" /\ ("fallen" : Str) ≠ "greatest" := by decide +kernel
theorem aat:∀m∈lu,m≠("greatest" : Str):=by decide +kernel
theorem MFs.great {fs:List (Str×V)}{pd fl cd:Addr}{g:Int}{b:Bool}(h:MFs fs pd fl cd g b) (hl:fs.length<50) (g':Int):MFs (putF "greatest" (.int g') fs) pd fl cd g' b:=by
 obtain⟨n1,n2,n3,n4⟩:=a86
 refine⟨?_,?_,?_,?_,?_,?_,fun m hm=>?_⟩
 . rw[am,if_neg n1];exact h.procedures
 . rw[am,if_neg n2];exact h.frames
 . rw[am,if_neg n3];exact h.cells
 . rw[am,if_pos rfl]
 . rw[am,if_neg n4];exact h.fallen
 . have:=bb "greatest" (.int g') fs;omega
 . rw[am,if_neg (aat m hm)];exact h.meth m hm
theorem scChange:FnScope ["self","frame","deed","cell"] ["self","frame","deed"] (aq oz):=⟨rfl,rfl,rfl,by decide +kernel,rfl,by decide +kernel,by decide +kernel⟩
theorem a2p (C:Con K mg w) (T:TxM K mg CM fI) (U:TxF K mg CF fJ) (F:Fun K "change" "Machine.change" oz f fd) (GN:FnOk P w K mg base CX0 2 gN dN ["self","word"] (qf CF)) (cN:MCal K CF "number" gN dN ["self","word"]):FnOk P w K mg base CX0 3 f fd ["self","frame","deed"] (spChange CM CF):=by
 refine F.okQ scChange (fun vs H Q E h=>?_) (fun cdv A outer s0 H vs Q E hr h=>?_)
 . rcases h with⟨_,_,_,_,_,_,_,_,_,_,_,_,_,rfl,_⟩|⟨_,_,_,_,_,_,_,_,_,_,_,_,_,_,_,_,_,_,_,_,_,rfl,_⟩|⟨_,_,_,_,_,_,_,_,_,_,_,_,_,_,_,_,_,_,_,_,_,_,_,rfl,_⟩<;>rfl
 have nd:=scChange.nd
 have hu1:=dw hr
 refine⟨_,(ai (bf (ay bp (ah au (qv 2) ac (fun _ _=>rfl)) b6 (az _)) (ai (cm hu1 (b4 (K:=K) rfl (qv 1)) (ah au (qv 2) ac (fun _ _=>rfl)) (cj (qv 1) U.cl cN.meth GN hr cN.bind .nil ap (av (ah au (qv 2) ac (fun _ _=>rfl)) ad)))) (ai (bf (ay bp (ah au (qv 2) ac (fun _ _=>rfl)) b6 (az _)) (ai (cm hu1 (b4 (K:=K) rfl (qv 1)) (ah au (qv 2) ac (fun _ _=>rfl)) (ah au (em hu1 (b4 (K:=K) rfl (qv 0)) (cj (qv 1) U.cl cN.meth GN hr cN.bind .nil ap (av (ah au (qv 2) ac (fun _ _=>rfl)) ad)) (fun _ _=>rfl)) a76 (fun _ _=>rfl)))) (ai (bf (ay bp (ah au (qv 2) ac (fun _ _=>rfl)) b6 (az _)) (af (aw (i:=3) nd rfl (Or.inl rfl) (be dh rfl C.list BF (av (em hu1 (b4 (K:=K) rfl (qv 0)) (cj (qv 1) U.cl cN.meth GN hr cN.bind .nil ap (av (ah au (qv 2) ac (fun _ _=>rfl)) ad)) (fun _ _=>rfl)) ad)))
   (af (jk (cj (qv 1) U.cl cN.meth GN hr cN.bind .nil ap (av (ah au (qv 2) ac (fun _ _=>rfl)) ad)) (vk (qv 3) a76 ld))
   (ai (cm hu1 (b4 (K:=K) rfl (qv 0)) (cj (qv 1) U.cl cN.meth GN hr cN.bind .nil ap (av (ah au (qv 2) ac (fun _ _=>rfl)) ad)) (be ia rfl C.tuple Dl (ak (qv 3) ad)))))) (ai (bf (ay bp (ah au (qv 2) ac (fun _ _=>rfl)) b6 (az _)) (af (aw (i:=3) nd rfl (Or.inl rfl) (fe (b5 (cj (qv 1) U.cl cN.meth GN hr cN.bind .nil ap (av (ah au (qv 2) ac (fun _ _=>rfl)) ad)) (b5 (cj (qv 1) U.cl cN.meth GN hr cN.bind .nil ap (av (ah au (qv 2) ac (fun _ _=>rfl)) ad)) ad))))
   (af (dn (K:=K) rfl (qv 0) (ax bm (b4 (K:=K) rfl (qv 0)) ac))
   (af (cm hu1 (b4 (K:=K) rfl (qv 0)) (b4 (K:=K) rfl (qv 0)) (qv 3))
   (ai (cm hu1 (b4 (K:=K) rfl (qv 1)) (ah au (qv 2) ac (fun _ _=>rfl)) (b4 (K:=K) rfl (qv 0))))))) (ai (bx (a4v (b4 (K:=K) rfl (qv 0)) (cj (qv 1) U.cl cN.meth GN hr cN.bind .nil ap (av (ah au (qv 2) ac (fun _ _=>rfl)) ad))))))))))))),?_⟩
 rcases h with⟨m,p,dx,pr,pt,nd',t,fs,rc,x,y,kvs,v,rfl,hp,hff,ht,hn,hl,hv,q⟩|⟨m,p,dm,dx,pr,pt,nd',pd,fl,cd,t,fm,fs,rc,x,g,b,kvs,cvs,i,c,rfl,hm,hM,hp,hff,ht,hn,hv,hc,hcv,q⟩|⟨m,p,dm,dx,pr,pt,nd',pd,fl,cd,t,fm,fs,rc,x,y,z,g,b,kvs,cvs,v1,v2,rfl,hm,hM,hl,hne,hnc,hp,hff,ht,hn,hkl,hv1,hv2,hc,hcl,q⟩
 . refine⟨_,rfl,t,_,0,_,rfl,rfl,SqT.of ht,rfl,rfl,_,rfl,iteB (fun _=>?_) (fun c=>absurd c (by decide +kernel))⟩
   refine⟨_,rfl,p,dx,fs,rfl,hp,hff.meth _ (by simp),_,rfl,t,_,2,_,rfl,rfl,SqT.of ht,rfl,p,dx,pr,pt,nd',fs,rc,y,rfl,hp,hff,lq hn hv ?_⟩
   exact⟨_,rfl,p,CF,dx,fs,_,rfl,hp,U.cl,U.nN,hff.numbers,_,rfl,t,_,1,_,rfl,rfl,SqT.of ht,rfl,nd',_,rfl,DPut.k (k:=Sum.inr x) hn (bu (by omega)),q⟩
 . refine⟨_,rfl,t,_,0,_,rfl,rfl,SqT.of ht,rfl,rfl,_,rfl,iteB (fun c=>absurd c (by decide +kernel)) (fun _=>?_)⟩
   refine⟨_,rfl,t,_,0,_,rfl,rfl,SqT.of ht,rfl,rfl,_,rfl,iteB (fun c=>absurd c (by decide +kernel)) (fun _=>?_)⟩
   refine⟨_,rfl,t,_,0,_,rfl,rfl,SqT.of ht,rfl,rfl,_,rfl,iteB (fun c=>absurd c (by decide +kernel)) (fun _=>?_)⟩
   refine⟨_,rfl,t,_,0,_,rfl,rfl,SqT.of ht,rfl,rfl,_,rfl,iteB (fun c=>absurd c (by decide +kernel)) (fun _=>?_)⟩
   refine⟨_,rfl,m,CM,dm,fm,_,rfl,hm,T.cl,T.nC,hM.cells,cd,rfl,.inl ⟨_,.inl hc⟩,?_⟩
   refine⟨_,rfl,p,dx,fs,rfl,hp,hff.meth _ (by simp),_,rfl,t,_,1,_,rfl,rfl,SqT.of ht,rfl,p,dx,pr,pt,nd',fs,rc,x,rfl,hp,hff,lq hn hv ?_⟩
   exact⟨cvs,Sum.inl i,c,hc,rfl,hcv,q⟩
 . refine⟨_,rfl,t,_,0,_,rfl,rfl,SqT.of ht,rfl,rfl,_,rfl,iteB (fun c=>absurd c (by decide +kernel)) (fun _=>?_)⟩
   refine⟨_,rfl,t,_,0,_,rfl,rfl,SqT.of ht,rfl,rfl,_,rfl,iteB (fun c=>absurd c (by decide +kernel)) (fun _=>?_)⟩
   refine⟨_,rfl,t,_,0,_,rfl,rfl,SqT.of ht,rfl,rfl,_,rfl,iteB (fun c=>absurd c (by decide +kernel)) (fun _=>?_)⟩
   refine⟨_,rfl,t,_,0,_,rfl,rfl,SqT.of ht,rfl,rfl,_,rfl,iteB (fun _=>?_) (fun c=>absurd c (by decide +kernel))⟩
   refine⟨_,rfl,p,dx,fs,rfl,hp,hff.meth _ (by simp),_,rfl,t,_,2,_,rfl,rfl,SqT.of ht,rfl,p,dx,pr,pt,nd',fs,rc,y,rfl,hp,hff,lq hn hv1 ?_⟩
   refine⟨_,rfl,p,dx,fs,rfl,hp,hff.meth _ (by simp),_,rfl,t,_,3,_,rfl,rfl,SqT.of ht,rfl,p,dx,pr,pt,nd',fs,rc,z,rfl,hp,hff,lq hn hv2 ?_⟩
   refine⟨(show 2<=sizeLine by decide),fun c hcn=>?_⟩
   have s1:=ag hcn (.tup [v1,v2])
   have q1:=q c hcn
   generalize upd H c (.tup [v1,v2])=H1 at s1 q1 |-
   have hm1:=s1 _ _ hm
   refine⟨_,rfl,m,CM,dm,fm,_,rfl,hm1,T.cl,T.nG,hM.greatest,_,_,rfl,rfl,_,rfl,m,CM,dm,fm,rfl,hm1,T.cl,T.nG,by omega,?_⟩
   have hM2:=hM.great hl (g+1)
   have k2:(upd H1 m (.ins CM dm (putF "greatest" (.int (g+1)) fm))) m=some (.ins CM dm (putF "greatest" (.int (g+1)) fm)):=aa
   have ncm:cd≠m:=fun w=>by rw[w,hm] at hc;cases hc
   have nnm:nd'≠m:=fun w=>by rw[w,hm] at hn;cases hn
   have ntm:t≠m:=fun w=>by rw[w,hm] at ht;cases ht
   have npc:p≠cd:=fun w=>by rw[w,hc] at hp;cases hp
   have ntc:t≠cd:=fun w=>by rw[w,hc] at ht;cases ht
   have hc2:(upd H1 m (.ins CM dm (putF "greatest" (.int (g+1)) fm))) cd=some (.dK cvs):=by rw[ae ncm];exact s1 _ _ hc
   have hn2:(upd H1 m (.ins CM dm (putF "greatest" (.int (g+1)) fm))) nd'=some (.dK kvs):=by rw[ae nnm];exact s1 _ _ hn
   have hp2:(upd H1 m (.ins CM dm (putF "greatest" (.int (g+1)) fm))) p=some (.ins CF dx fs):=by rw[ae (Br hne)];exact s1 _ _ hp
   have ht2:(upd H1 m (.ins CM dm (putF "greatest" (.int (g+1)) fm))) t=some (.tup [.str "new",.str x,.str y,.str z]):=by rw[ae ntm];exact s1 _ _ ht
   generalize upd H1 m (.ins CM dm (putF "greatest" (.int (g+1)) fm))=H2 at k2 hc2 hn2 hp2 ht2 q1 |-
   refine⟨_,rfl,_,rfl,m,CM,dm,_,_,rfl,k2,T.cl,T.nC,hM2.cells,_,rfl,m,CM,dm,_,_,rfl,k2,T.cl,T.nG,hM2.greatest,cd,_,rfl,DPut.k (k:=Sum.inl (g+1)) hc2 (bu (by omega)),?_⟩
   have k3:(upd H2 cd (.dK (putK cvs (Sum.inl (g+1)) (.ref c)))) m=some (.ins CM dm (putF "greatest" (.int (g+1)) fm)):=by rw[ae (Br ncm)];exact k2
   have hn3:(upd H2 cd (.dK (putK cvs (Sum.inl (g+1)) (.ref c)))) nd'=some (.dK kvs):=by rw[ae hnc];exact hn2
   have hp3:(upd H2 cd (.dK (putK cvs (Sum.inl (g+1)) (.ref c)))) p=some (.ins CF dx fs):=by rw[ae npc];exact hp2
   have ht3:(upd H2 cd (.dK (putK cvs (Sum.inl (g+1)) (.ref c)))) t=some (.tup [.str "new",.str x,.str y,.str z]):=by rw[ae ntc];exact ht2
   generalize upd H2 cd (.dK (putK cvs (Sum.inl (g+1)) (.ref c)))=H3 at k3 hn3 hp3 ht3 q1 |-
   exact⟨_,rfl,m,CM,dm,_,_,rfl,k3,T.cl,T.nG,hM2.greatest,_,rfl,p,CF,dx,fs,_,rfl,hp3,U.cl,U.nN,hff.numbers,_,rfl,t,_,1,_,rfl,rfl,SqT.of ht3,rfl,nd',_,rfl,DPut.k (k:=Sum.inr x) hn3 (bu (by omega)),q1⟩
end K52
namespace L2
open PySem PySem.Spec PyProof.Rows
theorem a2j {prog:Program}{w:World}{A:Around}{R:Result->Shared->Prop}{I:Addr}{fp wr:List Addr}{n:Nat}{P:Nat->Value->Prop}{St:Nat->Heap->Prop}(W:Walks prog w A.in1 I fp wr n P St) (bt:Nat->Nat->Bool) (hcmp:CmpOf prog w A.in1 .Gt P bt) (S:Addr) (hSf:S∉fp) (kw:List (Str×Value)) :
   ∀(k j:Nat) (s:Shared) (vb:Value) (c:Nat),n - (j+1)=k->j+1<=n->St (j+1) s.heap->P (argBest bt j) vb->s.heap.get? S=some { cls:=.type "list",data:=.seq #[vb,vb] c }->
     (∀(v:Value) (h':Heap) (tk:Nat),P (argBest bt (n - 1)) v->(∀(b:Addr) (o:Obj),b∉wr->b≠S->s.heap.get? b=some o->h'.get? b=some o)->R (.ok (.ret v)) { heap:=h',gens:=s.gens,drawn:=s.drawn,toks:=tk,os:=s.os })->
     codeAny (model prog w) A (.builtin "max.loop" ⟨[.ref I,.none,.ref S],kw⟩) R s:=by
 have hSw:S∉wr:=fun h=>hSf (W.sub S h)
 have hname:toString "max" ++ toString ".loop" = "max.loop" := by decide
 have s0:(#[]:Array Value).size<=sizeLine+1:=by decide
 have s2:∀v:Value,(#[v,v]:Array Value).size<=sizeLine:=fun v=>show 2<=sizeLine by decide
 have s21:∀v:Value,(#[v,v]:Array Value).size<=sizeLine+1:=fun v=>show 2<=sizeLine+1 by decide
 intro k
 induction k with
 | zero =>
   intro j s vb c hk hj hst hPb hS hR
   have hin:n=j+1:=by omega
   refine By FL ?_
   rw[Bn CB]
   refine Aa (Bb hS rfl ?_)
   refine Aa (CV (W.done s _ _ (hin ▸ hst) fun h' tk hk'=>?_))
   have hS':=hk' S _ hSw hS
   refine Aa (DQ hS' rfl (Aa (Dw (Ae (hR vb _ tk ?_ ?_)))) (s2 vb) s0)
   . rw[hin];exact hPb
   . intro b o hbw hbS e
     exact (Bl _ _ (Br hbS)).trans (hk' b o hbw e)
 | succ k ih =>
   intro j s vb c hk hj hst hPb hS hR
   have hlt:j+1<n:=by omega
   refine By FL ?_
   rw[Bn CB]
   refine Aa (Bb hS rfl ?_)
   refine Aa (CV (W.item (j+1) s _ _ hlt hst fun v h' tk hP hst' hk'=>?_))
   have hS':=hk' S _ hSw hS
   refine Aa (Ae (Aa (CV (AS (Aa (hcmp (j+1) (argBest bt j) v vb _ _ _ hP hPb (Aa (AS (Cv (Aa (Dw (Ae ?_))))))))))))
   show wpAny _ _ (if bt (j+1) (argBest bt j)=true then _ else _) _ _ _
   cases hb:bt (j+1) (argBest bt j) with
   | false =>
     rw[if_neg Am]
     refine Aa (Dw (Ae ?_))
     refine⟨BJ CB _,ih (j+1) _ vb c (by omega) hlt hst' ?_ hS' fun v' h'' tk'' hP' hk''=>hR v' h'' tk'' hP' fun b o hbw hbS e=>hk'' b o hbw hbS (hk' b o hbw e)⟩
     show P (if bt (j+1) (argBest bt j)=true then j+1 else argBest bt j) vb
     rw[hb,if_neg Am];exact hPb
   | true =>
     rw[if_pos rfl]
     refine Aa (DQ hS' rfl (Aa (Dw (Ae ?_))) (s2 vb) (s21 v))
     refine⟨BJ CB _,ih (j+1) _ v _ (by omega) hlt (W.frame (j+1+1) h' _ hst' fun b hbf o e=>(Bl _ _ (show S≠b from fun z=>hSf (by rw[z];exact hbf))).trans e) ?_ (Bp _ hS' rfl) fun v' h'' tk'' hP' hk''=>hR v' h'' tk'' hP' fun b o hbw hbS e=>hk'' b o hbw hbS ((Bl _ _ (Br hbS)).trans (hk' b o hbw e))⟩
     show P (if bt (j+1) (argBest bt j)=true then j+1 else argBest bt j) v
     rw[hb,if_pos rfl];exact hP
theorem a0y {prog:Program}{w:World}{A:Around}{R:Result->Shared->Prop}{I:Addr}{fp wr:List Addr}{n:Nat}{P:Nat->Value->Prop}{St:Nat->Heap->Prop}(W:Walks prog w A.in1 I fp wr n P St) (bt:Nat->Nat->Bool) (hcmp:CmpOf prog w A.in1 .Gt P bt) (S:Addr) (hSf:S∉fp) (x:Str) (d:Value) {s:Shared}{c:Nat}(hst:St 0 s.heap)
   (hS:s.heap.get? S=some { cls:=.type "list",data:=.seq #[] c })
   (hR0:n=0->∀(h':Heap) (tk:Nat),(∀(b:Addr) (o:Obj),b∉wr->s.heap.get? b=some o->h'.get? b=some o)->R (.ok (.ret d)) { heap:=h',gens:=s.gens,drawn:=s.drawn,toks:=tk,os:=s.os })
   (hR:0<n->∀(v:Value) (h':Heap) (tk:Nat),P (argBest bt (n - 1)) v->(∀(b:Addr) (o:Obj),b∉wr->b≠S->s.heap.get? b=some o->h'.get? b=some o)->R (.ok (.ret v)) { heap:=h',gens:=s.gens,drawn:=s.drawn,toks:=tk,os:=s.os }) :
   codeAny (model prog w) A (.builtin "max.loop" ⟨[.ref I,.none,.ref S],[(x,d)]⟩) R s:=by
 have hSw:S∉wr:=fun h=>hSf (W.sub S h)
 have s0:(#[]:Array Value).size<=sizeLine:=by decide
 have s21:∀v:Value,(#[v,v]:Array Value).size<=sizeLine+1:=fun v=>show 2<=sizeLine+1 by decide
 refine By FL ?_
 rw[Bn CB]
 refine Aa (Bb hS rfl ?_)
 by_cases hn:0<n
 . refine Aa (CV (W.item 0 s _ _ hn hst fun v h' tk hP hst' hk'=>?_))
   have hS':=hk' S _ hSw hS
   refine Aa (Ae (Aa (DQ hS' rfl (Ae ?_) s0 (s21 v))))
   refine⟨BJ CB _,a2j W bt hcmp S hSf _ (n - (0+1)) 0 _ v _ rfl hn (W.frame (0+1) h' _ hst' fun b hbf o e=>(Bl _ _ (show S≠b from fun z=>hSf (by rw[z];exact hbf))).trans e) hP (Bp _ hS' rfl) fun v' h'' tk'' hP' hk''=>hR hn v' h'' tk'' hP' fun b o hbw hbS e=>hk'' b o hbw hbS ((Bl _ _ (Br hbS)).trans (hk' b o hbw e))⟩
 . have hn0:n=0:=by omega
   refine Aa (CV (W.done s _ _ (by rw[hn0];exact hst) fun h' tk hk'=>?_))
   exact Aa (Cn (Ae (hR0 hn0 h' tk hk')))
theorem w4 {prog:Program}{w:World}{A:Around}{E:Value->Shared->Prop}{s:Shared}{x d:Value}{Q:Value->Shared->Prop}
   (h:wpAny (model prog w) A.in1 (pyIter x) (fun it s₂=>∃I fp wr n P St bt,it=.ref I/\Walks prog w A.in1 I fp wr n P St/\St 0 s₂.heap/\(∀b∈fp,b<s₂.heap.objs.size)/\CmpOf prog w A.in1 .Gt P bt/\
     (n=0->∀(h':Heap) (tk:Nat),(∀(b:Addr) (o:Obj),b∉wr->s₂.heap.get? b=some o->h'.get? b=some o)->Q d { heap:=h',gens:=s₂.gens,drawn:=s₂.drawn,toks:=tk,os:=s₂.os })/\
     (0<n->∀(v:Value) (h':Heap) (tk:Nat),P (argBest bt (n - 1)) v->(∀(b:Addr) (o:Obj),b∉wr->s₂.heap.get? b=some o->h'.get? b=some o)->Q v { heap:=h',gens:=s₂.gens,drawn:=s₂.drawn,toks:=tk,os:=s₂.os })) E s) :
   wpAny (model prog w) A (call (.builtin "max") [x] [("default",d)]) Q E s:=by
 have ha:argsOk "max" ⟨[x],[("default",d)]⟩:=rfl
 have hk:checkBuiltinCall "max" ⟨[x],[("default",d)]⟩=pure ():=by
   unfold checkBuiltinCall
   rw[F.kind_max]
   unfold argsOk at ha
   cases hs:Manifest.signature? "max" with
   | none=>rfl
   | some sig=>rw[hs] at ha;exact ha
 refine Hg (DH F.plain_max F.entry_max ?_)
 rw[hk]
 refine Ae ?_
 have hb:Builtin.Builtins.bindParams "max" ["key","default"] 0 ⟨[],[("default",d)]⟩=pure [none,some d]:=rfl
 refine Aa (EV hb ?_)
 refine Aa (Ae (Aa (thn h fun it s₂ h₂=>?_)))
 obtain⟨I,fp,wr,n,P,St,bt,rfl,W,hst,hfp,hcmp,h0,h1⟩:=h₂
 have hSf:s₂.heap.objs.size∉fp:=fun z=>AZ _ (hfp _ z)
 refine Aa (AV (Ae ?_) (show 0<=sizeLine by decide))
 refine⟨BJ CB _,a0y W bt hcmp s₂.heap.objs.size hSf _ d (W.frame 0 s₂.heap _ hst fun b _ o e=>Ac _ e) (Ak _ rfl) (fun hn h' tk hk=>?_) (fun hn v h' tk hP hk=>?_)⟩
 . exact h0 hn h' tk fun b o hbw e=>hk b o hbw (Ac _ e)
 . exact h1 hn v h' tk hP fun b o hbw e=>hk b o hbw (Aw (Ap e)) (Ac _ e)
section
variable {X:Cx}
noncomputable def a1d (K:Ab):R2:=fun x y H Q=>∃(a:Addr) (ns:List Int) (d:Int),x=.ref a/\y=.int d/\SqL K H a (ns.map V.int)/\(ns=[]->Q (.int d) H)/\∀M∈ns,(∀n∈ns,n<=M)->Q (.int M) H
theorem a8u {K:Ab}{p pos kpos:Pos}{e c:Expr}{te tc:TE}(hK:X.K=K) (hc:X.calm=true) (hg:Gl X "max") (hm:X.mg "max" = none) (ha:QE X e te) (hd:QE X c tc) (hall:(backToKw pos (keywordEach [⟨some "default",c,kpos⟩] X.env)).all (·.1.isSome)=true:=by rfl) (hks:(backToKw pos (keywordEach [⟨some "default",c,kpos⟩] X.env)).filterMap (·.1)=[("default" : Str)]:=by rfl)
   (he:starEach [e] X.env=(false,eval e X.env)::starEach [] X.env:=by rfl)
   (hpl:(backTo pos (starEach [e] X.env)).any (·.1)=false:=by rfl) (hpk:(backToKw pos (keywordEach [⟨some "default",c,kpos⟩] X.env)).any (·.1.isNone)=false:=by rfl) :
   QE X (.Call (.Name "max" p) [e] [⟨some "default",c,kpos⟩] pos) (tOp (a1d K) te tc):=by
 subst hK
 refine⟨?_⟩
 intro pins s σ H Q I h
 refine Do (fj I hg hm PyProof.Rows.Boot.max ?_ (by decide) (by decide))
 refine PyProof.Rows.callWith_builtin_kwB hpl hpk (PyProof.Rows.evalArgs_kw2 hall ?_ he)
 have A1:PA X [e] (cu te tNil):=ci ha.run i9 he
 have K1:PK X [⟨some "default",c,kpos⟩] (cu tc tNil):=a81 hd.run aa3
 refine thn (A1 pos pins s σ H (fun xs H1=>match xs with | [x]=>tc σ H1 fun y H2=>a1d X.K x y H2 Q|_=>False) I h) fun us s1 ⟨vs,H1,I1,r,q⟩=>?_
 obtain⟨x,rfl⟩:∃x,vs=[x]:=by
   match vs,q with
   | [x],_=>exact⟨x,rfl⟩
 refine thn (K1 pos pins s1 σ H1 (fun ys H2=>match ys with | [y]=>a1d X.K x y H2 Q|_=>False) I1 q) fun ws s2 ⟨zs,H2,I2,rz,q2⟩=>?_
 obtain⟨y,rfl⟩:∃y,zs=[y]:=by
   match zs,q2 with
   | [y],_=>exact⟨y,rfl⟩
 obtain⟨a,ns,d,rfl,rfl,hq,q0,q1⟩:=q2
 rw[hks]
 obtain⟨u,rfl,ru⟩:=r.one
 cases ru
 obtain⟨u2,rfl,t2,rfl⟩:=rz.one
 show wpAny _ _ (call (.builtin "max") [.ref a] [("default",.int d t2)]) _ _ _
 obtain⟨its,rv,p',_⟩:=I2.list hq
 have hl:its.length=ns.length:=by have:=rv.length;rw[Ad] at this;omega
 have hat:∀(i:Nat) (v:Value),its.toArray[i]? = some v->∃t,v=.int (ns.getD i 0) t:=fun i v hv=>by
   have hv':its[i]? = some v:=by simpa using hv
   have hi:i<ns.length:=by rw[<- hl];exact (Ao.mp hv').1
   obtain⟨w',hw,rw'⟩:=rv.get (show (ns.map V.int)[i]? = some (.int ns[i]) by rw[Ai,Af hi];rfl)
   rw[hv'] at hw
   cases hw
   obtain⟨t,rfl⟩:=rw'
   exact⟨t,by rw[Co,Af hi];rfl⟩
 have hax:a<s2.heap.objs.size:=by obtain⟨o,ho,_⟩:=p'.isList;exact Ap ho
 refine w4 (Cw p'.isList ⟨s2.heap.objs.size,_,_,_,_,_,fun i j=>decide (ns.getD i 0>ns.getD j 0),rfl,IJ (show X.A.in1.handled=none from I2.ok.hd hc) s2.heap.objs.size a (Aw hax) its.toArray,⟨?_,?_⟩,fun b hb=>?_,CmpOf.ints_gt (fun i=>ns.getD i 0) hat,fun hn h' tk hk=>?_,fun hn v h' tk hv hk=>?_⟩)
 . exact⟨_,Ak _ rfl,rfl,rfl⟩
 . exact p'.isList.push _
 . rw[Bh]
   simp only[Aq,AE,or_false] at hb
   rcases hb with rfl|rfl
   . exact Ce _
   . exact Cy hax
 . rw[Av] at hn
   refine⟨.int d,H2,I2.kept (t':=tk) fun b o hbo=>hk b o (by simp only[Aq,AE,or_false];exact Aw (Ap hbo)) (Ac _ hbo),⟨t2,rfl⟩,q0 (Bi (by omega))⟩
 . obtain⟨t,rfl⟩:=hat _ _ hv
   have hb:=argBest_gt (fun i=>ns.getD i 0) (its.toArray.size - 1)
   rw[Av] at hb hv hn
   have hi:argBest (fun i j=>decide (ns.getD i 0>ns.getD j 0)) (its.length - 1)<ns.length:=by have:=hb.1;omega
   refine⟨.int _,H2,I2.kept (t':=tk) fun b o hbo=>hk b o (by simp only[Aq,AE,or_false];exact Aw (Ap hbo)) (Ac _ hbo),⟨t,rfl⟩,q1 _ ?_ fun n hn'=>?_⟩
   . rw[Av,Co,Af hi];exact Dc hi
   . obtain⟨j,hj,rfl⟩:=EH hn'
     have:=hb.2 j (by omega)
     rw[Co,Af hj] at this
     rw[Av]
     simpa using this
theorem oi (hc:X.calm=true):MtR X "str.index" (fun x vs H Q=>∃z y,x=.str z/\vs=[.str y]/\0<=Jb z y/\Q (.int (Jb z y)) H):=by
 intro pins s σ H x vs v us Q I rx rv h
 obtain⟨z,y,rfl,rfl,hz,q⟩:=h
 obtain⟨t,rfl⟩:=rx
 obtain⟨u,rfl,ru⟩:=rv.one
 obtain⟨t2,rfl⟩:=ru
 refine index_or (I.ok.hd hc) (fun hn=>absurd hz (by omega)) fun _ _=>⟨.int _,H,I.tok _,⟨_,rfl⟩,q⟩
noncomputable def AlV (K:Ab) (H:Hp) (v v':V):Prop:=(a6z v=true/\v'=v)\/∃d,Dp K H v d/\Dp K H v' d/\EqOk d
inductive rNeAl (K:Ab) (x y:V) (H:Hp) (Q:VK):Prop
 | mk (a b:Addr) (kvs kws:List (Key×V)) (h1:x=.ref a) (h2:y=.ref b) (h3:H a=some (.dK kvs)) (h4:H b=some (.dK kws)) (h5:kvs.length=kws.length) (h6:∀k v,valV kvs k=some v->∃v',valV kws k=some v'/\AlV K H v v') (q:Q (.bl false) H):rNeAl K x y H Q
theorem a8q {K:Ab}(hK:X.K=K) (hu:X.A.units+32<cLine):OpR X (compareOp .NotEq) (rNeAl K):=by
 subst hK
 intro pins s σ H x y v u Q I rx ry h
 obtain⟨a,b,kvs,kws,rfl,rfl,ha,hb,hln,hs,q⟩:=h
 cases rx
 cases ry
 obtain⟨z,da,va,ra,dda⟩:=fw I.hok (.inl ha)
 obtain⟨_,db,vb,rb,ddb⟩:=fw I.hok (.inl hb)
 have hl:va.length=vb.length:=by rw[<- ra.length,<- rb.length];exact hln
 refine PySem.W.keq_ne (r:=true) da db dda ddb (by omega) (fun _=>?_) ⟨.bl false,H,I,?_,q⟩
 . refine pq va fun p hp=>?_
   have e1:=jd (k:=p.1) (v:=p.2) (qx dda) hp
   have r1:=ra.val p.1
   have r2:=rb.val p.1
   rw[e1] at r1
   cases hv:valV kvs p.1 with
   | none=>rw[hv] at r1;exact r1.elim
   | some v =>
     rw[hv] at r1
     obtain⟨v',hv',al⟩:=hs _ _ hv
     rw[hv'] at r2
     cases hy:valueAt vb p.1 with
     | none=>rw[hy] at r2;exact r2.elim
     | some y =>
       rw[hy] at r2
       refine⟨y,rfl,?_⟩
       rcases al with⟨h1,rfl⟩|⟨d,h1,h2,ok⟩
       . exact vt h1 r1 r2
       . obtain⟨as,q1⟩:=Dp.reads I h1 r1
         obtain⟨bs,q2⟩:=Dp.reads I h2 r2
         have:=IC d d X.A.in1 s p.2 y as bs q1 q2 ok.1 ok.1 (by have:=ok.2;have:X.A.in1.units=X.A.units+1:=rfl;rw[HN];omega)
         rw[GV d ok.1] at this
         exact this
 . rw[hl]
   simp[RelV]
end
noncomputable def a9y (K:Ab):R2:=fun x y H Q=>∃a b xs ys,x=.ref a/\y=.ref b/\SqT K H a xs/\SqT K H b ys/\xs≠[]/\ys≠[]/\xs.length+ys.length<=sizeLine/\∀p,H p=none->Q (.ref p) (upd H p (.tup (xs++ys)))
theorem a3m {X:Cx}{K:Ab}(hK:X.K=K):OpR X (binaryOp .Add) (a9y K):=by
 subst hK
 intro pins s σ H x y v u Q I rx ry h
 obtain⟨a,b,xs,ys,rfl,rfl,ha,hb,hx,hy,hz,q⟩:=h
 exact o7 pins s σ H (.ref a) (.ref b) v u Q I rx ry ⟨a,b,xs,ys,rfl,rfl,ha,hb,hx,hz,fun z=>absurd z hy,fun _ p hp=>q p hp⟩
theorem a6i {X:Cx}{K:Ab}(hK:X.K=K):SlR X (a0v K):=by subst hK;exact gt
theorem yk {X:Cx}:c7 X (.type "int") (fun xs H Q=>∃b:Bool,xs=[.bl b]/\Q (.int (if b=true then 1 else 0)) H):=by
 intro pins s σ H xs us Q I r h
 obtain⟨b,rfl,q⟩:=h
 obtain⟨u,rfl,ru⟩:=r.one
 cases ru
 exact PySem.call_int_bool ⟨.int _,H,I.tok _,⟨_,rfl⟩,q⟩
theorem a95 {X:Cx}{K:Ab}(hK:X.K=K):OpR X (compareOp .In) (rIn K false):=by subst hK;exact j5
theorem vp {X:Cx}{K:Ab}{tg l:Expr}{tl:TE}(hK:X.K=K) (hl:QE X l tl):QI X tg l (a1o K tl):=by subst hK;exact fk hl
theorem mn {X:Cx}{K:Ab}{tg l:Expr}{tl:TE}(hK:X.K=K) (hl:QE X l tl):QI X tg l (iTup K tl):=by subst hK;exact aa0 hl
theorem ku {X:Cx}{K:Ab}(hK:X.K=K):SlR X (rSlL K):=by subst hK;exact a9a
end L2
namespace K52
open PySem PySem.Spec L2 Mir
variable {P:Program}{w:World}{K:Ab}{mg:Str->Option Value}{base:Heap}{f g gS gN gA gW gI gL gF gO gT gB C fI CM CF fJ gD gR gU gM gH gE gC gK gX gP:Addr}{fd gd dS dN dA dW dI dL dF dO dT dB dD dR dU dM dH dE dC dK dX dP:FuncData}
structure MNew (K:Ab) (CM CF:Addr) (bs:List Nat) (G H:Hp) (m dx:Addr) (pcs:List Prc) (pc:Prc) (j:Nat) (kvs cvs:List (Key×V)) (due:Pre×Nat) (ns:List Int) (G1:Hp) (pd fl p dxp q1 nd cd pr bd:Addr) (prs:List Addr) (fsm fs:List (Str×V)) (zs:List Str) (g:Int):Prop where
 g1:Same G G1
 gH:Same G1 H
 n1:G1 m=none
 n2:G1 p=none
 n3:G1 nd=none
 n4:G1 cd=none
 n5:G1 fl=none
 nc:nd≠cd
 mp:m≠p
 hps:Paired (PrcAt K G1 bs) prs pcs
 hpr:prs[j]? = some pr
 hpd:G1 pd=some (.dK ((byK (pcs.map (·.name)) prs).map kk))
 hbd:∃v0 v1 v2 v3 v4,G1 pr=some (.tup [v0,v1,v2,v3,v4,.ref bd])
 body:ListX K G1 bs bd pc.body
 hm:H m=some (.ins CM dx fsm)
 mf:MFs fsm pd fl cd g false
 lm:fsm.length<=5
 hfl:H fl=some (.lst [.ref p])
 hp:H p=some (.ins CF dxp fs)
 ff:FFs fs pr q1 nd ""
 lf:fs.length<=4
 hq1:SqT K H q1 ((flat due.1++[(due.2:Int)]).map V.int)
 hnd:H nd=some (.dK ((ee kvs zs).map kk))
 zn:zs.Nodup
 zm:∀y,y∈zs↔b9 y=true/\y∈allW bs pc
 hcd:H cd=some (.dK cvs)
 g0:ns=[]->g=0
 gm:ns≠[]->g∈ns/\∀n∈ns,n<=g
inductive spMInit (K:Ab) (CM CF:Addr) (bs:List Nat) (vs:List V) (H:Hp) (Q:VK) (E:XK):Prop
 | mk (G:Hp) (m dx l q0 nm hd:Addr) (x:Str) (ts:List Addr) (pcs:List Prc) (j:Nat) (pc:Prc) (xs:List Str) (kvs cvs:List (Key×V)) (ns:List Int) (pp:Pre) (k:Nat) (due:Pre×Nat)
     (h0:vs=[.ref m,.ref l,.str x,.ref q0,.ref nm,.ref hd]) (eG:Same G H) (hm:G m=none) (hm1:H m=some (.ins CM dx []))
     (hl:G l=some (.lst (ts.map V.ref))) (hp:Paired (PrcAt K G bs) ts pcs) (hn:(pcs.map (·.name)).Nodup) (h10:pcs.length<=10) (hj:pcs[j]? = some pc) (hx:pc.name=x) (hok:PrcOk bs xs pc)
     (hq:SqT K G q0 ((flat pp++[(k:Int)]).map V.int)) (hst:∀G' bd,ListX K G' bs bd pc.body->∃e,Stands G' bd pp k due e) (hpp:pp.length<=40) (hnm:G nm=some (.dK kvs)) (hhd:G hd=some (.dK cvs)) (hns:cvs.map (·.1)=ns.map Sum.inl)
     (q:∀G1 pd fl p dxp q1 nd cd pr bd prs fsm fs zs g H',MNew K CM CF bs G H' m dx pcs pc j kvs cvs due ns G1 pd fl p dxp q1 nd cd pr bd prs fsm fs zs g->Q .non H'):spMInit K CM CF bs vs H Q E
theorem a5c:("procedures" : Str) ≠ "frames" /\ ("procedures" : Str) ≠ "cells" /\ ("procedures" : Str) ≠ "greatest" /\ ("procedures" : Str) ≠ "fallen" /\ ("frames" : Str) ≠ "cells" /\ ("frames" : Str) ≠ "greatest" /\ ("frames" : Str) ≠ "fallen" /\ ("cells" : Str) ≠ "greatest" /\ ("cells" : Str) ≠ "fallen" /\ ("greatest" : Str) ≠ "fallen" := by decide +kernel
theorem a7o:∀m∈lu,m≠("procedures" : Str)/\m≠("frames" : Str)/\m≠("cells" : Str)/\m≠("greatest" : Str)/\m≠("fallen" : Str):=by decide +kernel
noncomputable def mf1 (pd:Addr):List (Str×V):=putF "procedures" (.ref pd) []
noncomputable def mf2 (pd fl:Addr):List (Str×V):=putF "frames" (.ref fl) (mf1 pd)
noncomputable def mf3 (pd fl cd:Addr):List (Str×V):=putF "cells" (.ref cd) (mf2 pd fl)
noncomputable def mf4 (pd fl cd:Addr) (g:Int):List (Str×V):=putF "greatest" (.int g) (mf3 pd fl cd)
noncomputable def mf5 (pd fl cd:Addr) (g:Int):List (Str×V):=putF "fallen" (.bl false) (mf4 pd fl cd g)
theorem jq (pd fl cd:Addr) (g:Int):(mf1 pd).length<=1/\(mf2 pd fl).length<=2/\(mf3 pd fl cd).length<=3/\(mf4 pd fl cd g).length<=4/\(mf5 pd fl cd g).length<=5:=by
 have h1:=bb "procedures" (.ref pd) []
 have h2:=bb "frames" (.ref fl) (mf1 pd)
 have h3:=bb "cells" (.ref cd) (mf2 pd fl)
 have h4:=bb "greatest" (.int g) (mf3 pd fl cd)
 have h5:=bb "fallen" (.bl false) (mf4 pd fl cd g)
 simp only[EA] at h1
 unfold mf5 mf4 mf3 mf2 mf1 at*
 omega
theorem a9m (pd fl cd:Addr) (g:Int):MFs (mf5 pd fl cd g) pd fl cd g false:=by
 obtain⟨n1,n2,n3,n4,n5,n6,n7,n8,n9,n10⟩:=a5c
 refine⟨?_,?_,?_,?_,?_,by have:=jq pd fl cd g;omega,fun m hm=>?_⟩
 . unfold mf5 mf4 mf3 mf2 mf1;rw[am,if_neg n4,am,if_neg n3,am,if_neg n2,am,if_neg n1,am,if_pos rfl]
 . unfold mf5 mf4 mf3 mf2;rw[am,if_neg n7,am,if_neg n6,am,if_neg n5,am,if_pos rfl]
 . unfold mf5 mf4 mf3;rw[am,if_neg n9,am,if_neg n8,am,if_pos rfl]
 . unfold mf5 mf4;rw[am,if_neg n10,am,if_pos rfl]
 . unfold mf5;rw[am,if_pos rfl]
 . obtain⟨m1,m2,m3,m4,m5⟩:=a7o m hm
   unfold mf5 mf4 mf3 mf2 mf1
   rw[am,if_neg m5,am,if_neg m4,am,if_neg m3,am,if_neg m2,am,if_neg m1];rfl
theorem qu:∀{ns:List Str}{ts:List Addr}{j:Nat}{n:Str}{t:Addr},ns.Nodup->ns[j]? = some n->ts[j]? = some t->valV ((byK ns ts).map kk) (Sum.inr n)=some (.ref t)
 | [],_,_,_,_,_,h,_=>by simp at h
 | _::_,[],_,_,_,_,_,h=>by simp at h
 | m::ns,u::ts,0,n,t,hn,h1,h2=>by
   simp at h1 h2
   subst h1;subst h2
   unfold valV byK
   simp[kk]
 | m::ns,u::ts,j+1,n,t,hn,h1,h2=>by
   have h1':ns[j]? = some n:=by simpa using h1
   have h2':ts[j]? = some t:=by simpa using h2
   have ne:m≠n:=fun z=>(AX.mp hn).1 (by rw[z];exact Ar h1')
   have ih:=qu (AX.mp hn).2 h1' h2'
   unfold valV byK at ih |-
   simp only[Ds,AC,BQ,kk]
   rw[decide_eq_false (fun z=>ne (Dt z))]
   exact ih
theorem scMInit:FnScope ["self","program","name","path","values","heap"] ["self","program","name","path","values","heap"] (aq vi):=⟨rfl,rfl,rfl,by decide +kernel,rfl,by decide +kernel,by decide +kernel⟩
theorem a56 {n:Nat}{bs:List Nat}(C:Con K mg w) (T:TxM K mg CM fI) (U:TxF K mg CF fJ) (F:Fun K "__init__" "Machine.__init__" vi f fd) (GO:FnOk P w K mg base CX0 n gO dO ["deeds"] (spCopy K bs)) (cO:Cal K mg "own_deeds" gO dO ["deeds"]) (GB:FnOk P w K mg base CX0 1 gB dB ["program"] (spBy K)) (cB:Cal K mg "by_names" gB dB ["program"])
   (GI:FnOk P w K mg base CX0 n fJ dI ["self","procedure","path","numbers","receiver"] (spFInit K CF bs)) (bI:Binds K dI ["self","procedure","path","numbers","receiver"] []):FnOk P w K mg base CX0 (n+1+1) f fd ["self","program","name","path","values","heap"] (spMInit K CM CF bs):=by
 refine F.okQ scMInit (fun vs H Q E h=>?_) (fun cdv A outer s0 H vs Q E hr h=>?_)
 . obtain⟨_,_,_,_,_,_,_,_,_,_,_,_,_,_,_,_,_,_,_,rfl,_⟩:=h;rfl
 obtain⟨G,m,dx,l,q0,nm,hd,x,ts,pcs,j,pc,xs,kvs,cvs,ns,pp,k,due,rfl,eG,hm,hm1,hl,hp,hnn,h10,hj,hx,hok,hq,hst,hpp,hnm,hhd,hns,q⟩:=h
 have nd:=scMInit.nd
 have hu1:=dw hr
 have hr1:=hr.mono (j:=1) (by omega)
 have hrn:=hr.mono (j:=n) (by omega)
 refine⟨_,af (dn (K:=K) rfl (qv 0) (ar GB hr1 rfl cB.name cB.keep cB.bind .nil ap (cg (im (fk (qv 1)) (fun _ _ _ _=>il) (fun _ _ _ _=>(ax (a3m (K:=K) rfl) (c4 (a6i (K:=K) rfl) (qv 0) ca (cb ac)) (fe (b5 (ar GO hrn rfl cO.name cO.keep cO.bind .nil ap (av (ah (ixTK (K:=K) rfl) (qv 0) ac (fun _ _=>rfl)) ad)) ad))))) ad)))
   (af (dn (K:=K) rfl (qv 0) (br (b5 (rg U.mkC GI hr rfl U.mgC bI .nil ap (av (em hu1 (b4 (K:=K) rfl (qv 0)) (qv 2) (fun _ _=>rfl)) (ak (qv 3) (ak (qv 4) (cf ad))))) ad)))
   (af (dn (K:=K) rfl (qv 0) (be j6 rfl C.dict BW (ak (qv 5) ad)))
   (af (dn (K:=K) rfl (qv 0) (a8u (K:=K) rfl rfl rfl C.max (be (rn rfl) rfl C.list BF (ak (qv 5) ad)) ac))
   (ai (dn (K:=K) rfl (qv 0) ib))))),?_⟩
 have hpl:=Ax hp
 refine⟨_,rfl,l,rfl,⟨_,SqL.of (eG _ _ hl)⟩,?_⟩
 have gR:∀{D:Addr} {H2:Hp},H D=none->Same H H2->Same G (rm (fun c=>c=D\/c=m) H2):=fun {D H2} hD e b o z=>by
   rw[cr (fun y=>y.elim (aj (eG _ _ z) hD) (aj z hm))];exact e _ _ (eG _ _ z)
 refine i8 (ts.map V.ref) pcs (fun D G' y pc=>∃b,y=V.ref b/\PrcAt K (rm (fun c=>c=D\/c=m) G') bs b pc) id i7 (SqL.of (eG _ _ hl)) (by rw[Ad];omega) (by rw[Ad];exact hpl.symm) (fun D G1 G2 y x z e=>?_) (fun D hD i x r hx hr' H2 e2 hD2 Q' q'=>?_) (fun D H2 ys hD e2 hD2 hpt=>?_)
 . obtain⟨b,rfl,hb⟩:=z
   exact⟨b,rfl,hb.same (xo e (.inl rfl))⟩
 . rw[Ai] at hx
   obtain⟨t,ht,rfl⟩:=AR.mp hx
   obtain⟨r',hr2,at',t1,t2,f1,p1,f2,p2,bd,px⟩:=Paired.nth hp ht
   rw[hr'] at hr2;cases hr2
   have eH:=eG.trans e2
   refine⟨_,rfl,_,rfl,t,_,rfl,SqT.of (eH _ _ px.tup),fun u1 H3 e3 hu=>?_⟩
   have eH3:=eH.trans e3
   refine⟨_,rfl,t,_,5,_,rfl,rfl,SqT.of (eH3 _ _ px.tup),rfl,.mk (fun c=>c=D\/c=m) bd r.body rfl (fun c z y=>?_) (px.body.same (gR hD (e2.trans e3))) fun l' H4 e4 h4=>?_⟩
   . rcases z with rfl|rfl
     . exact hD2 (e3.free y)
     . rw[(e2.trans e3) _ _ hm1] at y;cases y
   refine⟨(show 1<=sizeLine by decide),fun u2 hu2=>?_⟩
   have s5:=ag hu2 (.tup [V.ref l'])
   have k5:(upd H4 u2 (.tup [V.ref l'])) u2=some (.tup [V.ref l']):=aa
   generalize upd H4 u2 (.tup [V.ref l'])=H5 at s5 k5 |-
   refine⟨u1,u2,_,_,rfl,rfl,(e4.trans s5).seqT hu,SqT.of k5,ID _ _,ID _ _,bi (show 5+1<=1000 by decide),fun u3 hu3=>?_⟩
   have e6:=ag hu3 (.tup (cutV [V.str r.name,V.ref at',V.str r.res,V.ref t1,V.ref t2,V.ref bd] none (some 5)++[V.ref l']))
   have h6:(upd H5 u3 (.tup (cutV [V.str r.name,V.ref at',V.str r.res,V.ref t1,V.ref t2,V.ref bd] none (some 5)++[V.ref l']))) u3=some (.tup [V.str r.name,V.ref at',V.str r.res,V.ref t1,V.ref t2,V.ref l']):=aa
   have e25:Same H2 H5:=(e3.trans e4).trans s5
   have nu:¬ (u3=D\/u3=m):=by
     rintro (rfl|rfl)
     . exact hD2 (e25.free hu3)
     . rw[(e2.trans e25) _ _ hm1] at hu3;cases hu3
   generalize upd H5 u3 (.tup (cutV [V.str r.name,V.ref at',V.str r.res,V.ref t1,V.ref t2,V.ref bd] none (some 5)++[V.ref l']))=H6 at e6 h6 |-
   have e26:Same H2 H6:=e25.trans e6
   have gg:=gR hD (e2.trans e26)
   refine q' (.ref u3) H6 e26 ⟨u3,rfl,at',t1,t2,f1,p1,f2,p2,l',?_,gg _ _ px.pt,gg _ _ px.t1,gg _ _ px.t2,px.f1.same gg,px.p1.same gg,px.f2.same gg,px.p2.same gg,h4.same (df (s5.trans e6)),px.okn,px.okr,px.okp,px.ok1,px.ok2,px.l1,px.l2⟩
   rw[cr nu];exact h6
 rw[Dv] at hpt
 obtain⟨us,rfl,hpp⟩:=ft (R:=fun b pc=>PrcAt K (rm (fun c=>c=D\/c=m) H2) bs b pc) hpt
 have hul:=Ax hpp
 have hus:Paired (fun t n=>∃vs,H2 t=some (.tup (.str n::vs))) us (pcs.map (·.name)):=by
   have:∀{us:List Addr} {pcs:List Prc},Paired (PrcAt K (rm (fun c=>c=D\/c=m) H2) bs) us pcs->Paired (fun t n=>∃vs,H2 t=some (.tup (.str n::vs))) us (pcs.map (·.name)):=fun {us pcs} h=>by
     induction h with
     | nil=>exact .nil
     | cons h1 _ ih=>obtain⟨_,_,_,_,_,_,_,_,px⟩:=h1;exact .cons ⟨_,dk _ _ px.tup⟩ ih
   exact this hpp
 refine .mk D us (pcs.map (·.name)) rfl hD2 hus hnn (by omega) fun pd H3 e3 hpd=>?_
 refine⟨_,rfl,m,CM,dx,[],rfl,(e2.trans e3) _ _ hm1,T.cl,T.nP,(by decide),?_⟩
 have hm3:=(e2.trans e3) _ _ hm1
 have g1:Same G (rm (fun c=>c=m) H3):=fun b o z=>by rw[cr (X:=fun c=>c=m) (aj z hm)];exact (e2.trans e3) _ _ (eG _ _ z)
 have npd:pd≠m:=fun z=>by rw[z,hm3] at hpd;cases hpd
 have hpd1:rm (fun c=>c=m) H3 pd=some (.dK ((byK (pcs.map (·.name)) us).map kk)):=by rw[cr (X:=fun c=>c=m) npd];exact hpd
 have hps1:Paired (PrcAt K (rm (fun c=>c=m) H3) bs) us pcs:=Paired.mapP hpp fun _ _ z=>z.same fun b o y=>by
   obtain⟨y1,y2⟩:=gs y
   rw[cr (X:=fun c=>c=m) (fun z=>y1 (.inr z))];exact e3 _ _ y2
 have gH3:Same (rm (fun c=>c=m) H3) (upd H3 m (.ins CM dx (mf1 pd))):=fun b o z=>by
   obtain⟨y1,y2⟩:=gs z
   rw[ae y1];exact y2
 have nm1:rm (fun c=>c=m) H3 m=none:=by unfold rm;rw[if_pos rfl]
 have hm4:(upd H3 m (.ins CM dx (mf1 pd))) m=some (.ins CM dx (mf1 pd)):=aa
 change tSeq _ _ _ _ (upd H3 m (.ins CM dx (mf1 pd)))
 generalize rm (fun c=>c=m) H3=G1 at g1 hpd1 hps1 gH3 nm1
 generalize upd H3 m (.ins CM dx (mf1 pd))=H4 at gH3 hm4 |-
 clear hpt hpp hus hD2 hpd hm3 e2 e3
 have hjl:j<us.length:=by rw[hul];exact (Ao.mp hj).1
 have hpr:us[j]? = some us[j]:=Af hjl
 generalize us[j]=pr at hpr
 obtain⟨pc',hpc',hPr⟩:=Paired.nth hps1 hpr
 rw[hj] at hpc';cases hpc'
 have hnj:(pcs.map (·.name))[j]? = some x:=by rw[Ai,hj];show some pc.name=_;rw[hx]
 have hg:=DGet.k (k:=Sum.inr x) (gH3 _ _ hpd1)
 rw[qu hnn hnj hpr] at hg
 have lk1:(mf1 pd).lookup ("procedures" : Str)=some (.ref pd):=by unfold mf1;rw[am,if_pos rfl]
 obtain⟨at',t1,t2,f1,p1,f2,p2,bd,px⟩:=id hPr
 obtain⟨eo,hst'⟩:=hst G1 bd px.body
 have eGH:=g1.trans gH3
 refine⟨_,rfl,m,CM,dx,_,_,rfl,hm4,T.cl,T.nP,lk1,_,rfl,pd,.ref pr,rfl,hg,_,rfl,_,rfl,fun p dxp hpn hdn hne=>?_⟩
 have s5:Same H4 (upd (upd H4 dxp (.own p)) p (.ins CF dxp [])):=fun b o z=>by rw[ae (aj z hpn),ae (aj z hdn)];exact z
 refine .mk H4 p dxp pr q0 nm bd "" pc xs _ _ _ _ _ kvs pp k due eo rfl s5 hpn aa (hPr.same gH3) hok (gH3 _ _ px.tup) (eGH.seqT hq) (hst'.same gH3) hpp (eGH _ _ hnm) fun q1 nd' fs zs H5 e5 hp5 hff hfl hq1 hndn hnd hzn hzs hzm=>⟨rfl,?_⟩
 have hmp:m≠p:=fun z=>by rw[<- z,hm4] at hpn;cases hpn
 have hndG:H4 nd'=none:=s5.free hndn
 refine⟨(show 1<=sizeLine by decide),fun fl hfln=>?_⟩
 have s6:=ag hfln (.lst [V.ref p])
 have k6:(upd H5 fl (.lst [V.ref p])) fl=some (.lst [V.ref p]):=aa
 dsimp only
 generalize upd H5 fl (.lst [V.ref p])=H6 at s6 k6 |-
 obtain⟨l1,l2,_⟩:=jq pd fl fl 0
 have hm6:=(e5.trans s6) _ _ hm4
 refine⟨_,rfl,m,CM,dx,_,rfl,hm6,T.cl,T.nF,(by omega),?_⟩
 have hm7:(upd H6 m (.ins CM dx (mf2 pd fl))) m=some (.ins CM dx (mf2 pd fl)):=aa
 have up:∀{H':Hp} {fs':List (Str×V)} {b:Addr} {o:HO},b≠m->H' b=some o->(upd H' m (.ins CM dx fs')) b=some o:=fun hb z=>by rw[ae hb];exact z
 have upT:∀{H':Hp} {fs0 fs':List (Str×V)} {a:Addr} {ys:List V},H' m=some (.ins CM dx fs0)->SqT K H' a ys->SqT K (upd H' m (.ins CM dx fs')) a ys:=fun {H' fs0 fs' a ys} hp' h=>by
   rcases h with (h|⟨o,h⟩)|h
   . exact .inl (.inl (by rw[ae (fun z=>by rw[z,hp'] at h;cases h)];exact h))
   . exact .inl (.inr ⟨o,by rw[ae (fun z=>by rw[z,hp'] at h;cases h)];exact h⟩)
   . exact .inr h
 have upG:∀{H':Hp} {fs':List (Str×V)},Same G1 H'->Same G1 (upd H' m (.ins CM dx fs')):=fun {H' fs'} e b o z=>up (aj z nm1) (e _ _ z)
 have g7:Same G1 (upd H6 m (.ins CM dx (mf2 pd fl))):=upG ((gH3.trans e5).trans s6)
 have nfm:fl≠m:=fun z=>by rw[z,hm6] at k6;cases k6
 have k7:(upd H6 m (.ins CM dx (mf2 pd fl))) fl=some (.lst [V.ref p]):=up nfm k6
 have p7:(upd H6 m (.ins CM dx (mf2 pd fl))) p=some (.ins CF dxp fs):=up (Br hmp) (s6 _ _ hp5)
 have nnm:nd'≠m:=fun z=>by rw[z,hm4] at hndG;cases hndG
 have n7:(upd H6 m (.ins CM dx (mf2 pd fl))) nd'=some (.dK ((ee kvs zs).map kk)):=up nnm (s6 _ _ hnd)
 have q7:SqT K (upd H6 m (.ins CM dx (mf2 pd fl))) q1 ((flat due.1++[(due.2:Int)]).map V.int):=upT hm6 (s6.seqT hq1)
 change tSeq _ _ _ _ (upd H6 m (.ins CM dx (mf2 pd fl)))
 have nfl:G1 fl=none:=(gH3.trans e5).free hfln
 have npn:G1 p=none:=gH3.free hpn
 have nnd:G1 nd'=none:=gH3.free hndG
 generalize upd H6 m (.ins CM dx (mf2 pd fl))=H7 at hm7 g7 k7 p7 n7 q7 |-
 refine⟨_,rfl,hd,cvs,rfl,(g1.trans g7) _ _ hhd,fun cd hcdn=>?_⟩
 have s8:=ag hcdn (.dK cvs)
 have k8:(upd H7 cd (.dK cvs)) cd=some (.dK cvs):=aa
 generalize upd H7 cd (.dK cvs)=H8 at s8 k8 |-
 have hm8:=s8 _ _ hm7
 have ncm:cd≠m:=fun z=>by rw[z,hm8] at k8;cases k8
 have ncd:G1 cd=none:=g7.free hcdn
 have ncn:nd'≠cd:=aj n7 hcdn
 obtain⟨_,_,l3,l4,l5⟩:=jq pd fl cd 0
 refine⟨_,rfl,m,CM,dx,_,rfl,hm8,T.cl,T.nC,(by omega),?_⟩
 have hm9:(upd H8 m (.ins CM dx (mf3 pd fl cd))) m=some (.ins CM dx (mf3 pd fl cd)):=aa
 have g9:Same G1 (upd H8 m (.ins CM dx (mf3 pd fl cd))):=upG (g7.trans s8)
 have k9:(upd H8 m (.ins CM dx (mf3 pd fl cd))) fl=some (.lst [V.ref p]):=up nfm (s8 _ _ k7)
 have p9:(upd H8 m (.ins CM dx (mf3 pd fl cd))) p=some (.ins CF dxp fs):=up (Br hmp) (s8 _ _ p7)
 have n9:(upd H8 m (.ins CM dx (mf3 pd fl cd))) nd'=some (.dK ((ee kvs zs).map kk)):=up nnm (s8 _ _ n7)
 have c9:(upd H8 m (.ins CM dx (mf3 pd fl cd))) cd=some (.dK cvs):=up ncm k8
 have q9:SqT K (upd H8 m (.ins CM dx (mf3 pd fl cd))) q1 ((flat due.1++[(due.2:Int)]).map V.int):=upT hm8 (s8.seqT q7)
 change tSeq _ _ _ _ (upd H8 m (.ins CM dx (mf3 pd fl cd)))
 generalize upd H8 m (.ins CM dx (mf3 pd fl cd))=H9 at hm9 g9 k9 p9 n9 c9 q9 |-
 refine⟨_,rfl,hd,cvs,rfl,(g1.trans g9) _ _ hhd,fun ll hll=>?_⟩
 have eks:cvs.map (fun kv=>kV kv.1)=ns.map V.int:=by
   have:cvs.map (fun kv=>kV kv.1)=(cvs.map (·.1)).map kV:=by rw[BO];rfl
   rw[this,hns,BO];rfl
 rw[eks]
 have s10:=ag hll (.lst (ns.map V.int))
 have k10:(upd H9 ll (.lst (ns.map V.int))) ll=some (.lst (ns.map V.int)):=aa
 generalize upd H9 ll (.lst (ns.map V.int))=H10 at s10 k10 |-
 have hm10:=s10 _ _ hm9
 have fin:∀g:Int,(ns=[]->g=0)->(ns≠[]->g∈ns/\∀n∈ns,n<=g)->Q .non (upd (upd H10 m (.ins CM dx (mf4 pd fl cd g))) m (.ins CM dx (mf5 pd fl cd g))):=fun g h1 h2=>by
   refine q G1 pd fl p dxp q1 nd' cd pr bd us (mf5 pd fl cd g) fs zs g _ ?_
   obtain⟨_,_,_,_,l6⟩:=jq pd fl cd g
   exact⟨g1,upG (upG (g9.trans s10)),nm1,npn,nnd,ncd,nfl,ncn,hmp,hps1,hpr,hpd1,⟨_,_,_,_,_,px.tup⟩,px.body,aa,a9m pd fl cd g,l6,up nfm (up nfm (s10 _ _ k9)),up (Br hmp) (up (Br hmp) (s10 _ _ p9)),hff,hfl,upT aa (upT hm10 (s10.seqT q9)),up nnm (up nnm (s10 _ _ n9)),hzn,hzm,up ncm (up ncm (s10 _ _ c9)),h1,h2⟩
 refine⟨ll,ns,0,rfl,rfl,SqL.of k10,fun h0=>?_,fun M hM hle=>?_⟩
 . obtain⟨_,_,_,l6,_⟩:=jq pd fl cd 0
   exact⟨_,rfl,m,CM,dx,_,rfl,hm10,T.cl,T.nG,(by omega),_,rfl,m,CM,dx,_,rfl,aa,T.cl,T.nL,AL l6 (by decide),fin 0 (fun _=>rfl) (fun z=>absurd h0 z)⟩
 . obtain⟨_,_,_,l6,_⟩:=jq pd fl cd M
   exact⟨_,rfl,m,CM,dx,_,rfl,hm10,T.cl,T.nG,(by omega),_,rfl,m,CM,dx,_,rfl,aa,T.cl,T.nL,AL l6 (by decide),fin M (fun z=>by rw[z] at hM;cases hM) (fun _=>⟨hM,hle⟩)⟩
noncomputable abbrev a0q:Stmt:=top 33
noncomputable abbrev sFed:Stmt:=top 34
noncomputable abbrev vh:Stmt:=top 35
noncomputable abbrev sr:Stmt:=top 36
noncomputable def nq (c:Int) (k:Nat):Int:=(c % 2147483629*48271+69621*(k:Int)+11) % 2147483587
noncomputable def mz (c:Int) (k:Nat):Int:=nq c k*(nq c k / 7+39373) % 2147483563
noncomputable def a6o (c:Int) (k:Nat):Int:=mz c k*(mz c k / 5+16807+(k:Int)) % 2147483399
noncomputable def a6u (c:Int) (k:Nat):Int:=(nq c k*2147483563+mz c k)*2147483399+a6o c k
noncomputable def a1v:Sp:=fun vs H Q _=>∃(c:Int) (k:Nat),vs=[.int c,.int (k:Int)]/\Q (.int (a6u c k)) H
noncomputable def fedF (c:Int) (k:Nat):Int:=if c % 2=1 then a6u (c / 2) k else c / 2
noncomputable def a1g:Sp:=fun vs H Q _=>∃(c:Int) (k:Nat),vs=[.int c,.int (k:Int)]/\∀l,H l=none->Q (.ref l) (upd H l (.lst [.int (fedF c k)]))
noncomputable def mq:Sp:=fun vs H Q _=>∃(l:Addr) (n:Int) (m:Int),vs=[.ref l,.int m]/\H l=some (.lst [.int n])/\0<m/\m<=10 ^ 60/\Q (.int (n % m)) (upd H l (.lst [.int (n / m)]))
theorem scRich:FnScope ["_law_cell","_law_k","_law_one","_law_two","_law_three"] ["_law_cell","_law_k"] (aq a0q):=⟨rfl,rfl,rfl,by decide +kernel,rfl,by decide +kernel,by decide +kernel⟩
theorem a8c (F:Fun K "_law_rich" "_law_rich" a0q f fd):FnOk P w K mg base CX0 1 f fd ["_law_cell","_law_k"] a1v:=by
 refine F.okQ scRich (fun vs H Q E h=>?_) (fun cdv A outer s0 H vs Q E hr h=>?_)
 . obtain⟨c,k,rfl,_⟩:=h;rfl
 obtain⟨c,k,rfl,q⟩:=h
 have nd:=scRich.nd
 refine⟨_,af (aw (i:=2) nd rfl (Or.inl rfl) (ax cv (ax bm (ax bm (ax jn (ax cv (qv 0) ac) ac) (ax jn ac (qv 1))) ac) ac))
   (af (aw (i:=3) nd rfl (Or.inl rfl) (ax cv (ax jn (qv 2) (ax bm (ax gu (qv 2) ac) ac)) ac))
   (af (aw (i:=4) nd rfl (Or.inl rfl) (ax cv (ax jn (qv 3) (ax bm (ax bm (ax gu (qv 3) ac) ac) (qv 1))) ac))
   (ai (b0 (ax bm (ax jn (ax bm (ax jn (qv 2) ac) (qv 3)) ac) (qv 4)))))),?_⟩
 have m1:0<=nq c k:=Bz _ (show (2147483587:Int)≠0 by decide)
 have m2:nq c k<2147483587:=BE _ (show (0:Int)<2147483587 by decide)
 have m3:0<=mz c k:=Bz _ (show (2147483563:Int)≠0 by decide)
 have m4:mz c k<2147483563:=BE _ (show (0:Int)<2147483563 by decide)
 refine⟨_,rfl,_,_,rfl,rfl,(show (0:Int)<2147483629 by decide),_,_,rfl,rfl,.inr ⟨by decide,by decide⟩,_,rfl,_,_,rfl,rfl,.inl ⟨by decide,by decide⟩,_,_,rfl,rfl,_,_,rfl,rfl,_,_,rfl,rfl,(show (0:Int)<2147483587 by decide),?_⟩
 change b7 2 (.int (nq c k)) _ _ _
 refine⟨_,rfl,_,rfl,_,_,rfl,rfl,(show CDiv _ 7 from⟨by decide,by decide⟩),_,_,rfl,rfl,_,_,rfl,rfl,.inl ⟨by omega,by omega⟩,_,_,rfl,rfl,(show (0:Int)<2147483563 by decide),?_⟩
 change b7 3 (.int (mz c k)) _ _ _
 refine⟨_,rfl,_,rfl,_,_,rfl,rfl,(show CDiv _ 5 from⟨by decide,by decide⟩),_,_,rfl,rfl,_,rfl,_,_,rfl,rfl,_,_,rfl,rfl,.inl ⟨by omega,by omega⟩,_,_,rfl,rfl,(show (0:Int)<2147483399 by decide),?_⟩
 change b7 4 (.int (a6o c k)) _ _ _
 exact⟨_,rfl,_,_,rfl,rfl,.inr ⟨by decide,by decide⟩,_,rfl,_,_,rfl,rfl,_,_,rfl,rfl,.inr ⟨by decide,by decide⟩,_,rfl,_,_,rfl,rfl,q⟩
theorem scFed:FnScope ["_law_cell","_law_k"] ["_law_cell","_law_k"] (aq sFed):=⟨rfl,rfl,rfl,by decide +kernel,rfl,by decide +kernel,by decide +kernel⟩
theorem aa7 (F:Fun K "_law_fed" "_law_fed" sFed f fd) (GR:FnOk P w K mg base CX0 1 gR dR ["_law_cell","_law_k"] a1v) (cR:Cal K mg "_law_rich" gR dR ["_law_cell","_law_k"]):FnOk P w K mg base CX0 2 f fd ["_law_cell","_law_k"] a1g:=by
 refine F.okQ scFed (fun vs H Q E h=>?_) (fun cdv A outer s0 H vs Q E hr h=>?_)
 . obtain⟨c,k,rfl,_⟩:=h;rfl
 obtain⟨c,k,rfl,q⟩:=h
 have nd:=scFed.nd
 refine⟨_,af (bf (ay bp (ax cv (qv 0) ac) ac (az _)) (ai (b0 (br (b5 (ar GR hr rfl cR.name cR.keep cR.bind .nil ap (fc (ax gu (qv 0) ac) (ak (qv 1) ad))) ad)))) bo)
   (ai (b0 (br (fc (ax gu (qv 0) ac) ad)))),?_⟩
 refine⟨_,rfl,_,_,rfl,rfl,(show (0:Int)<2 by decide),rfl,_,rfl,iteB (fun hc=>?_) (fun hc=>?_)⟩
 . have hc1:c % 2=1:=V.int.inj (of_decide_eq_true hc)
   unfold fedF at q
   rw[if_pos hc1] at q
   exact⟨_,rfl,_,_,rfl,rfl,(show CDiv _ 2 from⟨by decide,by decide⟩),_,rfl,c / 2,k,rfl,(show 1<=sizeLine by decide),q⟩
 . have hc1:¬ c % 2=1:=fun z=>by rw[decide_eq_true (congrArg V.int z)] at hc;cases hc
   unfold fedF at q
   rw[if_neg hc1] at q
   exact⟨_,rfl,_,_,rfl,rfl,(show CDiv _ 2 from⟨by decide,by decide⟩),(show 1<=sizeLine by decide),q⟩
theorem scDigit:FnScope ["_law_digits","_law_many","_law_found"] ["_law_digits","_law_many"] (aq vh):=⟨rfl,rfl,rfl,by decide +kernel,rfl,by decide +kernel,by decide +kernel⟩
theorem a4y (F:Fun K "_law_digit" "_law_digit" vh f fd):FnOk P w K mg base CX0 1 f fd ["_law_digits","_law_many"] mq:=by
 refine F.okQ scDigit (fun vs H Q E h=>?_) (fun cdv A outer s0 H vs Q E hr h=>?_)
 . obtain⟨g,n,m,rfl,_⟩:=h;rfl
 obtain⟨g,n,m,rfl,hG,hm,hm2,q⟩:=h
 have nd:=scDigit.nd
 refine⟨_,af (aw (i:=2) nd rfl (Or.inl rfl) (ax cv (ah et (qv 0) ac (fun _ _=>rfl)) (qv 1)))
   (af (jk (ax a5u (ah et (qv 0) ac (fun _ _=>rfl)) (qv 1)) (vk (qv 0) ac ld))
   (ai (b0 (qv 2)))),?_⟩
 refine⟨_,rfl,g,_,0,.int n,rfl,rfl,SqL.of hG,rfl,_,rfl,_,_,rfl,rfl,hm,?_⟩
 refine⟨_,rfl,g,_,0,.int n,rfl,rfl,SqL.of hG,rfl,_,rfl,_,_,rfl,rfl,⟨hm,hm2⟩,?_⟩
 exact⟨_,rfl,g,[.int n],0,0,rfl,rfl,hG,rfl,_,rfl,q⟩
noncomputable def signsT:Str := "abcdefghijklmnopqrstuvwxyz0123456789"
noncomputable def sgs:List Nat:=signsT.cps.toList
noncomputable def lts:List Nat:=sgs.take 26
theorem gc:signsT.length<=sizeLine:=by decide +kernel
theorem mt:sgs.length=36:=by decide +kernel
structure PreOk (pre:List Nat):Prop where
 len:pre.length<=7
 sg:∀c∈pre,c∈sgs
 hd:∀c r,pre=c::r->c∈lts
theorem a1q:∀c∈sgs,cz c=true:=by decide +kernel
theorem a49:∀c∈lts,io [c]=true:=by decide +kernel
theorem yi (c:Nat) (r:List Nat):io (c::r)=io [c]:=rfl
noncomputable def sg (t:Nat):Nat:=sgs.getD t 0
noncomputable def bv (pre:List Nat):Nat:=if pre=[] then 26 else 36
noncomputable def wd (pre:List Nat) (t:Nat):Str:=⟨(pre++[sg t]).toArray⟩
theorem vo {t:Nat}(h:t<36):sg t∈sgs:=by
 unfold sg
 rw[Co,Af (by rw[mt];exact h)]
 exact Dc _
theorem lb {t:Nat}(h:t<36):sgs[t]? = some (sg t):=by
 unfold sg
 rw[Co,Af (by rw[mt];exact h)];rfl
theorem uu {t:Nat}(h:t<26):sg t∈lts:=by
 have h1:lts[t]? = some (sg t):=by show (sgs.take 26)[t]? = _;rw[CY h];exact lb (by omega)
 exact Ar h1
theorem na:∀t,t<36->Jb signsT ⟨#[sg t]⟩=(t:Int):=by decide +kernel
theorem aai:sgs.Nodup:=by decide +kernel
theorem a9o {a b:Nat}(ha:a<36) (hb:b<36) (h:sg a=sg b):a=b:=by
 have h1:=lb ha
 have h2:=lb hb
 rw[h] at h1
 exact (Ii (by rw[mt];exact ha) aai).mp (h1.trans h2.symm)
theorem a2n {c:Nat}(h:c∈sgs):∃t,t<36/\c=sg t:=by
 obtain⟨t,ht,rfl⟩:=EH h
 have ht':t<36:=by rw[<- mt];exact ht
 refine⟨t,ht',?_⟩
 have:=lb ht'
 rw[Af ht] at this
 exact Ay this
theorem aa5 {c:Nat}(h:c∈lts):∃t,t<26/\c=sg t:=by
 obtain⟨t,ht,rfl⟩:=EH h
 have hl:lts.length=26:=by decide +kernel
 have ht':t<26:=by rw[<- hl];exact ht
 refine⟨t,ht',?_⟩
 have h1:lts[t]? = some (sg t):=by show (sgs.take 26)[t]? = _;rw[CY ht'];exact lb (by omega)
 rw[Af ht] at h1
 exact Ay h1
theorem a7s {pre:List Nat}{t:Nat}(hp:PreOk pre) (ht:t<bv pre) (hn:¬ wd pre t∈Mir.noNames):b9 (wd pre t)=true:=by
 have ht36:t<36:=by unfold bv at ht;split at ht<;>omega
 unfold b9
 have hl:(wd pre t).length=pre.length+1:=by show (pre++[sg t]).toArray.size=_;simp
 have h1:=hp.len
 rw[if_neg ?_]
 . rw[BR]
   constructor
   . show io (pre++[sg t])=true
     cases hpre:pre with
     | nil=>exact a49 _ (uu (by unfold bv at ht;rw[if_pos hpre] at ht;exact ht))
     | cons d r=>rw[List.cons_append,yi];exact a49 d (hp.hd d r hpre)
   . show (pre++[sg t]).all cz=true
     refine List.all_eq_true.mpr fun d hd=>?_
     rcases Al.mp hd with z|z
     . exact a1q d (hp.sg d z)
     . rw[As.mp z];exact a1q _ (vo ht36)
 . rintro (z|z|z)
   . have:=congrArg Fq z
     rw[hl] at this
     have h0:("" : Str).length=0:=by decide +kernel
     omega
   . omega
   . exact hn z
theorem aad {pre:List Nat}{a b:Nat}(ha:a<36) (hb:b<36) (h:wd pre a=wd pre b):a=b:=by
 have e2:=congrArg (fun s:Str=>s.cps.toList) h
 have e3:pre++[sg a]=pre++[sg b]:=e2
 exact a9o ha hb (by simpa using e3)
theorem a0h {pre:List Nat}{bad:List Str}{i0 many:Nat}(hm:many<=36) (h0:0<many) (hb:bad.length<many):¬ ∀j,j<many->wd pre ((i0+j) % many)∈bad:=by
 intro h
 have h1:((DF many).map fun j=>wd pre j).Nodup:=by
   refine List.pairwise_map.mpr ((List.nodup_range (n:=many)).imp_of_mem fun {a b} ha hb' hab e=>hab (aad ?_ ?_ e))
   . have:=EO.mp ha;omega
   . have:=EO.mp hb';omega
 have h2:=Bg h1 (l₂:=bad) fun x hx=>by
   obtain⟨t,ht,rfl⟩:=A9.mp hx
   have ht':=EO.mp ht
   have hi:=E8 i0 h0
   have:=h ((t+(many - i0 % many)) % many) (E8 _ h0)
   have e:(i0+(t+(many - i0 % many)) % many) % many=t:=by
     rw[Nat.add_mod,Nat.mod_mod,<- Nat.add_mod]
     have e1:i0=many*(i0 / many)+i0 % many:=(Nat.div_add_mod i0 many).symm
     have e2:i0+(t+(many - i0 % many))=t+many*(i0 / many+1):=by rw[Nat.mul_add,Nat.mul_one];omega
     rw[e2,Nat.add_mul_mod_self_left,IE ht']
   rw[e] at this
   exact this
 rw[Ad,Fo] at h2
 omega
theorem aa8 (pre:List Nat) (t u:Nat):cutS (wd pre t) none (some (-1))++(⟨#[sg u]⟩:Str)=wd pre u:=by
 have hl:(wd pre t).length=pre.length+1:=by show (pre++[sg t]).toArray.size=_;simp
 have h1:(cutS (wd pre t) none (some (-1))).cps=pre.toArray:=by
   show (List.take (HT.sIx (wd pre t).length (wd pre t).length (some (-1)) - HT.sIx (wd pre t).length 0 none) (List.drop (HT.sIx (wd pre t).length 0 none) (pre++[sg t]))).toArray=_
   have e1:HT.sIx (wd pre t).length (wd pre t).length (some (-1))=pre.length:=by
     unfold HT.sIx
     simp only[hl]
     rw[if_pos (by decide)]
     omega
   have e2:HT.sIx (wd pre t).length 0 none=0:=rfl
   rw[e1,e2,Cr,DX,List.take_left']
   rfl
 have h2:(cutS (wd pre t) none (some (-1))++(⟨#[sg u]⟩:Str)).cps=(cutS (wd pre t) none (some (-1))).cps ++ #[sg u]:=GY _ _
 have h3:∀a b:Str,a.cps=b.cps->a=b:=fun a b e=>by cases a;cases b;cases e;rfl
 refine h3 _ _ ?_
 rw[h2,h1]
 show pre.toArray ++ #[sg u]=(pre++[sg u]).toArray
 simp
theorem abc {K:Ab}{σ:St}{H:Hp}{Q:Bool->Hp->Prop}{i j k:Nat}{x:Str}{l m:Addr}{ns ms:List Str}(hi:σ[i]? = some (some (.str x))) (hj:σ[j]? = some (some (.ref l))) (hk:σ[k]? = some (some (.ref m))) (h1:H l=some (.lst (ns.map V.str))) (h2:H m=some (.lst (ms.map V.str))) (q:Q (decide (x∈ns++ms)) H) :
   tOr (ui (tOp (rIn K false) (tVar i) (tVar j))) (ui (tOp (rIn K false) (tVar i) (tVar k))) σ H Q:=by
 refine⟨_,hi,_,hj,l,_,rfl,.inl (SqL.of h1),rfl,i5 _,_,rfl,?_⟩
 rw[if_neg Am,gq]
 refine iteB (fun c=>?_) (fun c=>⟨_,hi,_,hk,m,_,rfl,.inl (SqL.of h2),rfl,i5 _,_,rfl,?_⟩)
 . rw[decide_eq_true (Ct _ (of_decide_eq_true c))] at q;exact q
 . rw[if_neg Am,gq]
   have e:decide (x∈ns++ms)=decide (x∈ms):=by
     rw[Cj,decide_eq_true_eq,decide_eq_true_eq,Al]
     exact⟨fun z=>z.elim (fun y=>absurd y (of_decide_eq_false c)) id,.inr⟩
   rw[e] at q;exact q
inductive spUnlike (K:Ab) (vs:List V) (H:Hp) (Q:VK) (E:XK):Prop
 | mk (pre:List Nat) (t:Nat) (l:Addr) (ns:List Str) (h0:vs=[.str (wd pre t),.ref l]) (hp:PreOk pre) (ht:t<bv pre) (hl:H l=some (.lst (ns.map V.str))) (hn:ns.length<=12)
     (q:∀x H',Same H H'->¬ x∈ns->b9 x=true->Q (.str x) H'):spUnlike K vs H Q E
theorem scUnlike:FnScope ["_law_name","_law_names_here","_law_signs","_law_odd","_law_many"] ["_law_name","_law_names_here"] (aq sr):=⟨rfl,rfl,rfl,by decide +kernel,rfl,by decide +kernel,by decide +kernel⟩
theorem a3q (C:Con K mg w) (F:Fun K "_law_unlike" "_law_unlike" sr f fd):FnOk P w K mg base CX0 1 f fd ["_law_name","_law_names_here"] (spUnlike K):=by
 refine F.okQ scUnlike (fun vs H Q E h=>?_) (fun cdv A outer s0 H vs Q E hr h=>?_)
 . obtain⟨pre,t,l,ns,rfl,_⟩:=h;rfl
 obtain⟨pre,t,l,ns,rfl,hp,ht,hl,hn,q⟩:=h
 have nd:=scUnlike.nd
 refine⟨_,af (aw (i:=2) nd rfl (Or.inl rfl) b6)
   (af (aw (i:=3) nd rfl (Or.inl rfl) (br (cf (cf (cf (cf (cf (cf (cf (cf (cf (cf ad))))))))))))
   (af (aw (i:=4) nd rfl (Or.inl rfl) (ah et (br (bj (bj ad))) (be yk rfl C.int GZ (cg (rl bp (bc lp rfl C.len Bk (ak (qv 0) ad)) ac (az _)) ad)) (fun _ _=>rfl)))
   (af (kj AM (QW.qt (nk (ay j5 (qv 0) (qv 1) (by with_unfolding_all rfl)) (r6 (ay j5 (qv 0) (qv 3) (by with_unfolding_all rfl))))) (ai (aw (i:=0) nd rfl (Or.inl rfl) (ax gl (c4 xr (qv 0) ca (cb (c5 bw ac))) (ah gj (qv 2) (ax cv (ax bm (du (K:=K) rfl Gi Gj Gk (oi rfl) (qv 2) (av (ah gj (qv 0) (c5 bw ac) (fun _ _=>rfl)) ad)) ac) (qv 4)) (fun _ _=>rfl))))))
   (ai (b0 (qv 0)))))),?_⟩
 refine⟨(by decide),fun l0 hl0=>?_⟩
 have s1:=ag hl0 (.lst (Mir.noNames.map V.str))
 have k1:(upd H l0 (.lst (Mir.noNames.map V.str))) l0=some (.lst (Mir.noNames.map V.str)):=aa
 change tSeq _ _ _ _ (upd H l0 (.lst (Mir.noNames.map V.str)))
 generalize upd H l0 (.lst (Mir.noNames.map V.str))=H1 at s1 k1 |-
 have hwl:(wd pre t).length=pre.length+1:=by show (pre++[sg t]).toArray.size=_;simp
 have hpl:=hp.len
 have hm36:bv pre<=36/\26<=bv pre:=by unfold bv;split<;>omega
 refine⟨(by decide),fun l1 hl1=>?_⟩
 have s2:=ag hl1 (.lst [V.int 36,V.int 26])
 have k2:(upd H1 l1 (.lst [V.int 36,V.int 26])) l1=some (.lst [V.int 36,V.int 26]):=aa
 generalize upd H1 l1 (.lst [V.int 36,V.int 26])=H2 at s2 k2 |-
 refine⟨_,rfl,wd pre t,rfl,bi (by omega),rfl,_,rfl,l1,_,_,.int (bv pre),rfl,rfl,SqL.of k2,?_,?_⟩
 . rw[hwl]
   unfold bv
   by_cases hpr:pre=[]
   . rw[if_pos hpr,hpr];rfl
   . have:pre.length≠0:=fun z=>hpr (Bi z)
     rw[if_neg hpr,if_neg (by intro z;have:=V.int.inj (of_decide_eq_true z);omega)];rfl
 dsimp only[b7]
 have hl2:=(s1.trans s2) _ _ hl
 have hbl:(ns++Mir.noNames).length<bv pre:=by rw[Ag,show Mir.noNames.length=10 by decide];omega
 refine⟨fun m σ H'=>H'=H2/\∃j,m=bv pre - j/\(∀i,i<j->wd pre ((t+i) % bv pre)∈ns++Mir.noNames)/\σ=[some (.str (wd pre ((t+j) % bv pre))),some (.ref l),some (.str signsT),some (.ref l0),some (.int (bv pre))],⟨_,rfl,0,rfl,fun i hi=>absurd hi (Nat.not_lt_zero _),?_⟩,?_⟩
 . rw[Nat.add_zero,IE ht];rfl
 rintro m σ H' ⟨rfl,j,rfl,hall,rfl⟩
 have hj:j<bv pre:=Nat.lt_of_not_le fun z=>a0h hm36.1 (by omega) hbl fun i hi=>hall i (by omega)
 have hmod:=E8 (t+j) (show 0<bv pre by omega)
 generalize hu:(t+j) % bv pre=u at hmod
 have hul:(wd pre u).length=pre.length+1:=by show (pre++[sg u]).toArray.size=_;simp
 have k1':=s2 _ _ k1
 have hlast:atI (wd pre u).cps.toList (-1)=some (sg u):=by show atI (pre++[sg u]) (-1)=_;exact bh
 have hu36:u<36:=by omega
 refine abc rfl rfl rfl hl2 k1' ?_
 refine iteB (fun hc=>?_) (fun hc=>?_)
 . have hin:=of_decide_eq_true hc
   refine⟨fun σ' H9=>H9=H'/\σ'=[some (.str (wd pre ((t+(j+1)) % bv pre))),some (.ref l),some (.str signsT),some (.ref l0),some (.int (bv pre))],?_,?_⟩
   . rintro σ' H9 ⟨rfl,rfl⟩
     refine⟨bv pre - (j+1),by omega,rfl,j+1,rfl,fun i hi=>?_,rfl⟩
     by_cases e:i=j
     . rw[e,hu];exact hin
     . exact hall i (by omega)
   . have hmu:=E8 (u+1) (show 0<bv pre by omega)
     have e1:(t+(j+1)) % bv pre=(u+1) % bv pre:=by rw[<- hu,Nat.mod_add_mod,Nat.add_assoc]
     have e2:((u:Int)+1) % (bv pre:Int)=(((u+1) % bv pre:Nat):Int):=(Int.natCast_emod (u+1) (bv pre)).symm
     have hcutl:(cutS (wd pre u) none (some (-1))).length<=8:=by
       have e:(cutS (wd pre u) none (some (-1))).length<=(wd pre u).length:=by
         show (((wd pre u).cps.toList.drop (HT.sIx (wd pre u).length 0 none)).take _).toArray.size<=(wd pre u).cps.size
         rw[Av,AG,Be,Ba]
         omega
       omega
     refine⟨_,rfl,_,rfl,_,rfl,wd pre u,rfl,bi (by omega),_,rfl,_,rfl,rfl,_,rfl,_,rfl,wd pre u,_,sg u,rfl,rfl,bi (by omega),hlast,signsT,⟨#[sg u]⟩,rfl,rfl,by rw[na u hu36];omega,?_⟩
     rw[na u hu36]
     refine⟨_,_,rfl,rfl,_,rfl,_,_,rfl,rfl,(show (0:Int)<(bv pre:Int) by omega),signsT,_,sg ((u+1) % bv pre),rfl,rfl,gc,?_,_,_,rfl,rfl,bi (by show _+1<=1000;omega),rfl,?_⟩
     . rw[e2];exact bn (lb (by omega))
     . rw[aa8,e1]
       rfl
 . have hout:=of_decide_eq_false hc
   exact⟨_,rfl,q _ _ (s1.trans s2) (fun z=>hout (Ct _ z)) (a7s hp hmod fun z=>hout (AO _ z))⟩
noncomputable abbrev vv:Stmt:=top 37
structure WOk (w:List Nat):Prop where
 len:w.length<=8
 ne:w≠[]
 sg:∀c∈w,c∈sgs
 hd:∀c r,w=c::r->c∈lts
noncomputable def toS (w:List Nat):Str:=⟨w.toArray⟩
theorem fb (w:List Nat):(toS w).length=w.length:=by show w.toArray.size=_;simp
theorem WOk.wd {w:List Nat}(h:WOk w):∃pre t,toS w=wd pre t/\PreOk pre/\t<bv pre:=by
 obtain⟨pre,c,rfl⟩:∃pre c,w=pre++[c]:=⟨w.dropLast,w.getLast h.ne,(List.dropLast_concat_getLast h.ne).symm⟩
 have hc:=h.sg c (AO _ (As.mpr rfl))
 have hl:=h.len
 rw[Ag,AK] at hl
 have hp:PreOk pre:=⟨by omega,fun d hd=>h.sg d (Ct _ hd),fun d r e=>h.hd d (r++[c]) (by rw[e];rfl)⟩
 by_cases e:pre=[]
 . subst e
   obtain⟨t,ht,rfl⟩:=aa5 (h.hd c [] rfl)
   exact⟨[],t,rfl,hp,by unfold bv;rw[if_pos rfl];exact ht⟩
 . obtain⟨t,ht,rfl⟩:=a2n hc
   exact⟨pre,t,rfl,hp,by unfold bv;rw[if_neg e];exact ht⟩
theorem WOk.one {c:Nat}(h:c∈lts):WOk [c]:=⟨by simp,by simp,fun d hd=>by rw[As.mp hd];exact BU h,fun d r e=>by rw[<- (Es e).1];exact h⟩
theorem WOk.snoc {w:List Nat}{c:Nat}(h:WOk w) (hc:c∈sgs) (hl:w.length<=7):WOk (w++[c]):=by
 refine⟨by rw[Ag,AK];omega,by simp,fun d hd=>?_,fun d r e=>?_⟩
 . rcases Al.mp hd with z|z
   . exact h.sg d z
   . rw[As.mp z];exact hc
 . cases hw:w with
   | nil=>exact absurd hw h.ne
   | cons d' r'=>rw[hw] at e;rw[<- (Es e).1];exact h.hd d' r' hw
theorem WOk.at {w:List Nat}{c i:Nat}(h:WOk w) (hc:c∈lts) (hi:i<w.length):WOk (w.take i++[c]++w.drop (i+1)):=by
 have hcs:c∈sgs:=BU hc
 refine⟨?_,by simp,fun d hd=>?_,fun d r e=>?_⟩
 . have:=h.len
   simp only[Ag,AG,Be,AK];omega
 . rcases Al.mp hd with z|z
   . rcases Al.mp z with z|z
     . exact h.sg d (BU z)
     . rw[As.mp z];exact hcs
   . exact h.sg d (CU z)
 . cases i with
   | zero=>simp at e;rw[<- e.1];exact hc
   | succ i =>
     cases hw:w with
     | nil=>exact absurd hw h.ne
     | cons d' r'=>rw[hw] at e;simp at e;rw[<- e.1];exact h.hd d' r' hw
theorem qa (w:List Nat) (c:Nat):toS w++(⟨#[c]⟩:Str)=toS (w++[c]):=by
 have h3:∀a b:Str,a.cps=b.cps->a=b:=fun a b e=>by cases a;cases b;cases e;rfl
 refine h3 _ _ ?_
 rw[GY]
 show w.toArray ++ #[c]=(w++[c]).toArray
 simp
theorem a8r (a b:List Nat):toS a++toS b=toS (a++b):=by
 have h3:∀a b:Str,a.cps=b.cps->a=b:=fun a b e=>by cases a;cases b;cases e;rfl
 refine h3 _ _ ?_
 rw[GY]
 show a.toArray++b.toArray=(a++b).toArray
 simp
theorem aal (w:List Nat) (i:Nat):cutS (toS w) none (some (i:Int))=toS (w.take i):=by
 unfold cutS
 rw[HT.sIx_nat,show HT.sIx (toS w).length 0 none=0 from rfl,fb]
 show toS ((w.drop 0).take _)=_
 rw[Cr,DX]
 by_cases h:i<=w.length
 . rw[EB h]
 . rw[Iy (by omega),Bv,Bm (by omega)]
theorem a52 (w:List Nat) (i:Nat) (h:i<=w.length):cutS (toS w) (some (i:Int)) none=toS (w.drop i):=by
 unfold cutS
 rw[HT.sIx_nat,show HT.sIx (toS w).length (toS w).length none=(toS w).length from rfl,fb,EB h]
 show toS ((w.drop i).take _)=_
 rw[Bm (by rw[Be];omega)]
noncomputable def DI (H:Hp) (dl:Addr) (H':Hp):Prop:=Same H H'/\∃n:Int,H' dl=some (.lst [.int n])
theorem DI.put {H H':Hp}{dl:Addr}(h:DI H dl H') (hd:H dl=none) (n:Int):DI H dl (upd H' dl (.lst [.int n])):=⟨fun b o z=>by rw[ae (aj z hd)];exact h.1 _ _ z,n,aa⟩
theorem DI.same {H H' H'':Hp}{dl:Addr}(h:DI H dl H') (e:Same H' H''):DI H dl H'':=⟨h.1.trans e,by obtain⟨n,hn⟩:=h.2;exact⟨n,e _ _ hn⟩⟩
theorem qp (n:Int) {m:Int}(h0:0<m) (hm:m<=36):∃t:Nat,(t:Int)<m/\atI signsT.cps.toList (n % m)=some (sg t):=by
 have h1:=Bz n (show m≠0 by omega)
 have h2:=BE n h0
 obtain⟨t,ht⟩:∃t:Nat,n % m=(t:Int):=⟨(n % m).toNat,by omega⟩
 rw[ht] at h2 |-
 exact⟨t,h2,bn (lb (by omega))⟩
inductive spNm (vs:List V) (H:Hp) (Q:VK) (E:XK):Prop
 | mk (b p:Int) (n:Nat) (h0:vs=[.int b,.int p,.int (n:Int)]) (hn:n<=8) (q:∀l xs H',Same H H'->H' l=some (.lst ((xs:List Str).map V.str))->xs.length=n->xs.Nodup->(∀x∈xs,b9 x=true)->Q (.ref l) H'):spNm vs H Q E
inductive NW (H:Hp) (dl:Addr) (b p:Int) (n sz:Nat) (i:Nat) (σ:St) (H':Hp):Prop
 | mk (w:List Nat) (z7:Option V) (D:DI H dl H') (hw:WOk w) (hl:w.length=i+1) (hσ:σ=[some (.int b),some (.int p),some (.int (n:Int)),some (.str signsT),some (.ref dl),some (.int (1+(sz:Int))),some (.str (toS w)),z7,none,none,none,none,none])
inductive NL (H:Hp) (dl nl:Addr) (b p:Int) (n sz:Nat) (w:List Nat) (i:Nat) (σ:St) (H':Hp):Prop
 | mk (xs:List Str) (z7 z9 z10 z11 z12:Option V) (D:DI H dl H') (k:H' nl=some (.lst (xs.map V.str))) (hl:xs.length=i) (hn:xs.Nodup) (hx:∀x∈xs,b9 x=true) (hσ:σ=[some (.int b),some (.int p),some (.int (n:Int)),some (.str signsT),some (.ref dl),some (.int (1+(sz:Int))),some (.str (toS w)),z7,some (.ref nl),z9,z10,z11,z12])
inductive NJ (H:Hp) (dl nl:Addr) (b p:Int) (n sz:Nat) (w:List Nat) (xs:List Str) (z9 z10 z11:Option V) (i:Nat) (σ:St) (H':Hp):Prop
 | mk (v:List Nat) (z7:Option V) (D:DI H dl H') (k:H' nl=some (.lst (xs.map V.str))) (hv:WOk v) (hl:v.length=i+1) (hσ:σ=[some (.int b),some (.int p),some (.int (n:Int)),some (.str signsT),some (.ref dl),some (.int (1+(sz:Int))),some (.str (toS w)),z7,some (.ref nl),z9,z10,z11,some (.str (toS v))])
theorem scNames:FnScope ["_law_base","_law_place","_law_many","_law_signs","_law_digits","_law_size","_law_word","_law_j","_law_names_here","_law_k","_law_at","_law_letter","_law_name"] ["_law_base","_law_place","_law_many"] (aq vv):=⟨rfl,rfl,rfl,by decide +kernel,rfl,by decide +kernel,by decide +kernel⟩
theorem a5o (C:Con K mg w) (F:Fun K "_law_names" "_law_names" vv f fd) (GF:FnOk P w K mg base CX0 2 gF dF ["_law_cell","_law_k"] a1g) (cF:Cal K mg "_law_fed" gF dF ["_law_cell","_law_k"]) (GD:FnOk P w K mg base CX0 1 gD dD ["_law_digits","_law_many"] mq) (cD:Cal K mg "_law_digit" gD dD ["_law_digits","_law_many"]) (GU:FnOk P w K mg base CX0 1 gU dU ["_law_name","_law_names_here"] (spUnlike K)) (cU:Cal K mg "_law_unlike" gU dU ["_law_name","_law_names_here"]):FnOk P w K mg base CX0 3 f fd ["_law_base","_law_place","_law_many"] spNm:=by
 refine F.okQ scNames (fun vs H Q E h=>?_) (fun cdv A outer s0 H vs Q E hr h=>?_)
 . obtain⟨b,p,n,rfl,_⟩:=h;rfl
 obtain⟨b,p,n,rfl,hn,q⟩:=h
 have nd:=scNames.nd
 have hr1:=hr.mono (j:=1) (by omega)
 refine⟨_,af (aw (i:=3) nd rfl (Or.inl rfl) b6)
   (af (aw (i:=4) nd rfl (Or.inl rfl) (ar GF hr rfl cF.name cF.keep cF.bind .nil ap (ak (qv 0) (bj ad))))
   (af (aw (i:=5) nd rfl (Or.inl rfl) (ax bm ac (ar GD hr1 rfl cD.name cD.keep cD.bind .nil ap (ak (qv 4) (bj ad)))))
   (af (aw (i:=6) nd rfl (Or.inl rfl) (ah gj (qv 3) (ar GD hr1 rfl cD.name cD.keep cD.bind .nil ap (ak (qv 4) (bj ad))) (fun _ _=>rfl)))
   (af (c8 AM rfl (a4o rfl C.range (bj (ak (qv 5) ad))) (b8 (i:=7) nd rfl (Or.inl rfl)) (ai (aw (i:=6) nd rfl (Or.inl rfl) (ax gl (qv 6) (ah gj (qv 3) (ar GD hr1 rfl cD.name cD.keep cD.bind .nil ap (ak (qv 4) (bj ad))) (fun _ _=>rfl))))))
   (af (aw (i:=8) nd rfl (Or.inl rfl) (br ad))
   (af (c8 AM rfl (fi rfl C.range (ak (qv 2) ad)) (b8 (i:=9) nd rfl (Or.inl rfl)) (af (aw (i:=10) nd rfl (Or.inl rfl) (ax cv (qv 1) (qv 5)))
   (af (aw (i:=11) nd rfl (Or.inl rfl) (ah gj (qv 3) (ax cv (ax bm (du (K:=K) rfl Gi Gj Gk (oi rfl) (qv 3) (av (ah gj (qv 6) (qv 10) (fun _ _=>rfl)) ad)) (qv 9)) ac) (fun _ _=>rfl)))
   (af (aw (i:=12) nd rfl (Or.inl rfl) (ax gl (ax gl (c4 xr (qv 6) ca (cb (qv 10))) (qv 11)) (c4 xr (qv 6) (cb (ax bm (qv 10) ac)) ca)))
   (af (bf (ay bp (ax cv (qv 0) ac) ac (az _)) (af (aw (i:=12) nd rfl (Or.inl rfl) (ah gj (qv 3) (ar GD hr1 rfl cD.name cD.keep cD.bind .nil ap (ak (qv 4) (bj ad))) (fun _ _=>rfl)))
   (ai (c8 AM rfl (fi rfl C.range (b5 (ar GD hr1 rfl cD.name cD.keep cD.bind .nil ap (ak (qv 4) (bj ad))) ad)) (b8 (i:=7) nd rfl (Or.inl rfl)) (ai (aw (i:=12) nd rfl (Or.inl rfl) (ax gl (qv 12) (ah gj (qv 3) (ar GD hr1 rfl cD.name cD.keep cD.bind .nil ap (ak (qv 4) (bj ad))) (fun _ _=>rfl)))))))) bo)
   (ai (bx (du (K:=K) rfl AW BA BB d0 (qv 8) (b5 (ar GU hr1 rfl cU.name cU.keep cU.bind .nil ap (ak (qv 12) (ak (qv 8) ad))) ad)))))))))
   (ai (b0 (qv 8))))))))),?_⟩
 refine⟨_,rfl,b,3,rfl,fun dl hdl=>?_⟩
 have D0:DI H dl (upd H dl (.lst [.int (fedF b 3)])):=⟨ag hdl _,_,aa⟩
 generalize upd H dl (.lst [.int (fedF b 3)])=H1 at D0 |-
 obtain⟨e1,n1,k1⟩:=id D0
 refine⟨_,rfl,dl,n1,8,rfl,k1,(by decide),(by decide),_,_,rfl,rfl,?_⟩
 have hs0:=Bz n1 (show (8:Int)≠0 by decide)
 have hs1:=BE n1 (show (0:Int)<8 by decide)
 obtain⟨sz,hsz⟩:∃sz:Nat,n1 % 8=(sz:Int):=⟨(n1 % 8).toNat,by omega⟩
 rw[hsz] at hs1 |-
 have D2:=D0.put hdl (n1 / 8)
 generalize upd H1 dl (.lst [.int (n1 / 8)])=H2 at D2 |-
 obtain⟨e2,n2,k2⟩:=id D2
 obtain⟨t2,ht2,hat2⟩:=qp n2 (m:=26) (by decide) (by decide)
 refine⟨_,rfl,_,rfl,dl,n2,26,rfl,k2,(by decide),(by decide),signsT,_,sg t2,rfl,rfl,gc,hat2,?_⟩
 have D3:=D2.put hdl (n2 / 26)
 generalize upd H2 dl (.lst [.int (n2 / 26)])=H3 at D3 |-
 dsimp only[b7]
 refine ao (a:=tFor _ _ _) fun F1 hF1 _ _=>?_
 refine⟨_,rfl,1,1+(sz:Int),rfl,⟨by decide,by decide,by omega,by omega⟩,?_⟩
 refine fh (lo:=1) (n:=(1+(sz:Int) - 1).toNat) (NW H dl b p n sz) ⟨[sg t2],none,D3,WOk.one (uu (by omega)),rfl,rfl⟩ ?_ ?_
 . rintro i σ H' hi ⟨wl,z7,D4,hw,hwl,rfl⟩
   obtain⟨e4,n4,k4⟩:=id D4
   obtain⟨t4,ht4,hat4⟩:=qp n4 (m:=36) (by decide) (by decide)
   refine⟨_,rfl,_,rfl,_,rfl,dl,n4,36,rfl,k4,(by decide),(by decide),signsT,_,sg t4,rfl,rfl,gc,hat4,toS wl,_,rfl,rfl,bi (by rw[fb];show _+1<=1000;omega),wl++[sg t4],some (.int (1+(i:Int))),D4.put hdl _,hw.snoc (vo (by omega)) (by omega),by rw[Ag,AK];omega,?_⟩
   rw[qa];rfl
 rintro σ H4 ⟨wl,z7,D4,hw,hwl,rfl⟩
 refine hF1 _ _ ?_
 have hwl':wl.length=sz+1:=by omega
 refine⟨(by decide),fun nl hnl=>?_⟩
 have D5:DI H dl (upd H4 nl (.lst [])):=D4.same (ag hnl _)
 have k5:(upd H4 nl (.lst [])) nl=some (.lst (([]:List Str).map V.str)):=aa
 have nnd:nl≠dl:=fun z=>by obtain⟨_,n,k⟩:=D4;rw[z,k] at hnl;cases hnl
 have nnH:H nl=none:=D4.1.free hnl
 dsimp only[b7]
 generalize upd H4 nl (.lst [])=H5 at D5 k5 |-
 refine ao (a:=tFor _ _ _) fun F2 hF2 _ _=>?_
 refine⟨_,rfl,_,rfl,by omega,by omega,?_⟩
 refine fh (lo:=0) (n:=(n:Int).toNat) (NL H dl nl b p n sz wl) ⟨[],z7,none,none,none,none,D5,k5,rfl,.nil,(fun x hx=>by cases hx),rfl⟩ ?_ ?_
 . rintro i σ H6 hi ⟨xs,z7,z9,z10,z11,z12,D6,k6,hxl,hxn,hxs,rfl⟩
   have hpm0:=Bz p (show (1+(sz:Int))≠0 by omega)
   have hpm1:=BE p (show (0:Int)<1+(sz:Int) by omega)
   refine⟨_,rfl,_,rfl,_,_,rfl,rfl,(show (0:Int)<1+(sz:Int) by omega),?_⟩
   show b7 10 (.int (p % (1+(sz:Int)))) _ _ _
   obtain⟨a,ha⟩:∃a:Nat,p % (1+(sz:Int))=(a:Int):=⟨(p % (1+(sz:Int))).toNat,by omega⟩
   rw[ha] at hpm1 |-
   have hal:a<wl.length:=by omega
   obtain⟨u,hu,hwu⟩:=a2n (hw.sg _ (Dc hal))
   have hata:atI (toS wl).cps.toList (a:Int)=some (sg u):=by show atI wl (a:Int)=_;exact bn (by rw[Af hal,hwu])
   obtain⟨t7,ht7,hat7⟩:=qp ((u:Int)+(0+(i:Int))) (m:=26) (by decide) (by decide)
   dsimp only[b7]
   refine⟨_,rfl,_,rfl,rfl,_,rfl,_,rfl,toS wl,_,sg u,rfl,rfl,bi (by rw[fb];omega),hata,signsT,⟨#[sg u]⟩,rfl,rfl,by rw[na u hu];omega,?_⟩
   rw[na u hu]
   refine⟨_,rfl,_,_,rfl,rfl,_,_,rfl,rfl,(show (0:Int)<26 by decide),signsT,_,sg t7,rfl,rfl,gc,hat7,?_⟩
   dsimp only[b7]
   refine⟨_,rfl,_,rfl,_,rfl,toS wl,rfl,bi (by rw[fb];omega),?_⟩
   rw[aal]
   refine⟨_,rfl,_,_,rfl,rfl,bi (by rw[fb,AG];show _+1<=1000;omega),_,rfl,_,rfl,_,_,rfl,rfl,_,rfl,toS wl,rfl,bi (by rw[fb];omega),?_⟩
   have ea:((a:Int)+1)=((a+1:Nat):Int):=rfl
   rw[ea,a52 _ _ (by omega),qa]
   refine⟨_,_,rfl,rfl,bi (by rw[fb,fb,Ag,AG,Be,AK];omega),?_⟩
   rw[a8r]
   have hv:WOk (wl.take a++[sg t7]++wl.drop (a+1)):=hw.at (uu (by omega)) hal
   generalize wl.take a++[sg t7]++wl.drop (a+1)=v at hv |-
   dsimp only[b7]
   refine ao (a:=tIfS _ _ _) fun F3 hF3 _ _=>?_
   have tail:∀(v:List Nat) (H7:Hp) (z7':Option V),DI H dl H7->H7 nl=some (.lst (xs.map V.str))->WOk v->F3.nx [some (.int b),some (.int p),some (.int (n:Int)),some (.str signsT),some (.ref dl),some (.int (1+(sz:Int))),some (.str (toS wl)),z7',some (.ref nl),some (.int (0+(i:Int))),some (.int (a:Int)),some (.str ⟨#[sg t7]⟩),some (.str (toS v))] H7:=fun v H7 z7' D7 k7 hv=>hF3 _ _ (by
     obtain⟨pre,t,e,hp,ht⟩:=hv.wd
     refine⟨_,rfl,.inl ⟨rfl,_,SqL.of k7⟩,_,rfl,_,rfl,.mk pre t nl xs (by rw[e];rfl) hp ht k7 (by omega) fun x H8 e8 hx hn=>?_⟩
     refine⟨nl,xs.map V.str,.str x,rfl,rfl,e8 _ _ k7,bu (by rw[Ad];omega),xs++[x],_,_,_,_,_,?_,?_,?_,?_,?_,rfl⟩
     . obtain⟨d1,m,d2⟩:=D7.same e8
       refine⟨fun c o z=>?_,m,?_⟩
       . rw[ae (aj z nnH)];exact d1 _ _ z
       . rw[ae (Br nnd)];exact d2
     . rw[aa,Az];rfl
     . rw[Ag,AK,hxl]
     . exact CS.mpr ⟨hxn,FR _ _,fun y hy z hz e=>hx (by rw[<- As.mp hz,<- e];exact hy)⟩
     . intro y hy
       rcases Al.mp hy with hy|hy
       . exact hxs y hy
       . rw[As.mp hy];exact hn)
   refine⟨_,rfl,_,_,rfl,rfl,(show (0:Int)<2 by decide),rfl,_,rfl,iteB (fun _=>?_) (fun _=>tail v H6 z7 D6 k6 hv)⟩
   obtain⟨e6,n6,d6⟩:=id D6
   obtain⟨t8,ht8,hat8⟩:=qp n6 (m:=26) (by decide) (by decide)
   refine⟨_,rfl,_,rfl,dl,n6,26,rfl,d6,(by decide),(by decide),signsT,_,sg t8,rfl,rfl,gc,hat8,?_⟩
   have D8:=D6.put hdl (n6 / 26)
   have k8:(upd H6 dl (.lst [.int (n6 / 26)])) nl=some (.lst (xs.map V.str)):=by rw[ae nnd];exact k6
   generalize upd H6 dl (.lst [.int (n6 / 26)])=H8 at D8 k8 |-
   obtain⟨e8,n8,d8⟩:=id D8
   have hs8:=Bz n8 (show (8:Int)≠0 by decide)
   have hs9:=BE n8 (show (0:Int)<8 by decide)
   dsimp only[b7]
   refine⟨_,rfl,dl,n8,8,rfl,d8,(by decide),(by decide),_,rfl,by omega,by omega,?_⟩
   have D9:=D8.put hdl (n8 / 8)
   have k9:(upd H8 dl (.lst [.int (n8 / 8)])) nl=some (.lst (xs.map V.str)):=by rw[ae nnd];exact k8
   generalize upd H8 dl (.lst [.int (n8 / 8)])=H9 at D9 k9 |-
   refine fh (lo:=0) (n:=(n8 % 8).toNat) (NJ H dl nl b p n sz wl xs (some (.int (0+(i:Int)))) (some (.int (a:Int))) (some (.str ⟨#[sg t7]⟩))) ⟨[sg t8],z7,D9,k9,WOk.one (uu (by omega)),rfl,rfl⟩ ?_ ?_
   . rintro j σ H' hj ⟨v,z7',D4,k4',hv4,hvl,rfl⟩
     obtain⟨e4,n4,k4⟩:=id D4
     obtain⟨t4,ht4,hat4⟩:=qp n4 (m:=36) (by decide) (by decide)
     refine⟨_,rfl,_,rfl,_,rfl,dl,n4,36,rfl,k4,(by decide),(by decide),signsT,_,sg t4,rfl,rfl,gc,hat4,toS v,_,rfl,rfl,bi (by rw[fb];show _+1<=1000;omega),v++[sg t4],some (.int (0+(j:Int))),D4.put hdl _,by rw[ae nnd];exact k4',hv4.snoc (vo (by omega)) (by omega),by rw[Ag,AK];omega,?_⟩
     rw[qa];rfl
   rintro σ H10 ⟨v,z7',D10,k10,hv10,hvl,rfl⟩
   exact tail v H10 z7' D10 k10 hv10
 rintro σ H6 ⟨xs,z7,z9,z10,z11,z12,D6,k6,hxl,hxn,hxs,rfl⟩
 exact hF2 _ _ ⟨_,rfl,q nl xs H6 D6.1 k6 (by omega) hxn hxs⟩
noncomputable def vK (xs:List Str) (f:Str->Int):List (Key×V):=xs.map fun x=>(Sum.inr x,.int (f x))
noncomputable def upF (f:Str->Int) (x:Str) (v:Int):Str->Int:=fun y=>if y=x then v else f y
noncomputable def hK (hp:List (Int×Addr)):List (Key×V):=hp.map fun p=>(Sum.inl p.1,.ref p.2)
noncomputable def bK (xs:List Str):List (Key×V):=xs.map fun x=>(Sum.inr x,.bl true)
theorem ja {f:Str->Int}{x:Str}:∀{xs:List Str},x∈xs->valV (vK xs f) (Sum.inr x)=some (.int (f x))
 | [],h=>by cases h
 | y::xs,h=>by
   by_cases e:y=x
   . subst e;exact gp rfl
   . rcases Aq.mp h with z|z
     . exact absurd z.symm e
     . have ih:=ja (f:=f) z
       unfold valV vK at ih |-
       rw[AC,BQ]
       rw[decide_eq_false (fun w=>e (Dt w))]
       exact ih
theorem ly {β:Type}{g:Str->β}{xs:List Str}{x:Str}:((xs.map fun y=>((Sum.inr y:Key),g y)).any fun kv=>decide (kv.1=(Sum.inr x:Key)))=decide (x∈xs):=by
 rw[Cj,FB,decide_eq_true_eq]
 constructor
 . rintro⟨kv,hk,he⟩
   obtain⟨y,hy,rfl⟩:=A9.mp hk
   rw[<- Dt (of_decide_eq_true he)];exact hy
 . intro h
   exact⟨_,A9.mpr ⟨x,h,rfl⟩,decide_eq_true rfl⟩
theorem m6 {f:Str->Int}{x:Str}{v:Int}{xs:List Str}(h:x∈xs):putK (vK xs f) (Sum.inr x) (.int v)=vK xs (upF f x v):=by
 unfold putK vK
 rw[ly,decide_eq_true h,if_pos rfl,BO]
 refine Di fun y _=>?_
 show (if (Sum.inr y:Key)=Sum.inr x then _ else _)=_
 unfold upF
 by_cases e:y=x
 . rw[if_pos (by rw[e]),if_pos e]
 . rw[if_neg (fun z=>e (Dt z)),if_neg e]
theorem a3r {f:Str->Int}{x:Str}{v:Int}{xs:List Str}(h:¬ x∈xs):putK (vK xs f) (Sum.inr x) (.int v)=vK (xs++[x]) (upF f x v):=by
 unfold putK vK
 rw[ly,decide_eq_false h,if_neg Am,Az]
 congr 1
 . refine Di fun y hy=>?_
   unfold upF;rw[if_neg (fun z=>h (by rw[<- z];exact hy))]
 . show _=[((Sum.inr x:Key),V.int (upF f x v x))]
   unfold upF;rw[if_pos rfl]
noncomputable def addL (L:List Str) (x:Str):List Str:=if x∈L then L else L++[x]
theorem a57 {L:List Str}{x y:Str}:y∈addL L x↔y∈L\/y=x:=by
 unfold addL
 split
 . exact⟨.inl,fun h=>h.elim id fun e=>by rw[e];assumption⟩
 . rw[Al,As]
theorem mi {xs:List Str}{x:Str}:putK (bK xs) (Sum.inr x) (.bl true)=bK (addL xs x):=by
 unfold putK bK addL
 rw[ly (g:=fun _=>V.bl true)]
 by_cases h:x∈xs
 . rw[decide_eq_true h,if_pos rfl,if_pos h,BO]
   refine Di fun y _=>?_
   show (if (Sum.inr y:Key)=Sum.inr x then _ else _)=_
   by_cases e:y=x
   . rw[if_pos (by rw[e])]
   . rw[if_neg (fun z=>e (Dt z))]
 . rw[decide_eq_false h,if_neg Am,if_neg h,Az];rfl
theorem jc {K:Ab}{H H':Hp}{a:Addr}{xs:List V}(h:SqT K H a xs) (k:∀o,H a=some o->(∀C d f,o≠.ins C d f)->(∀kvs,o≠.dK kvs)->(∀l,o≠.lst l)->H' a=some o):SqT K H' a xs:=by
 rcases h with (h|⟨o,h⟩)|h
 . exact .inl (.inl (k _ h (fun _ _ _ z=>by cases z) (fun _ z=>by cases z) (fun _ z=>by cases z)))
 . exact .inl (.inr ⟨o,k _ h (fun _ _ _ z=>by cases z) (fun _ z=>by cases z) (fun _ z=>by cases z)⟩)
 . exact .inr h
structure Fr where
 p:Addr
 dx:Addr
 pr:Addr
 pt:Addr
 nd:Addr
 bd:Addr
 fs:List (Str×V)
 nm:Str
 rc:Str
 res:Str
 k:Nat
 ts:List Addr
 ys:List Str
 F:Str->Int
structure FrAt (K:Ab) (CF:Addr) (X H:Hp) (a:Fr):Prop where
 xp:X a.p=none
 xn:X a.nd=none
 hp:H a.p=some (.ins CF a.dx a.fs)
 ff:FFs a.fs a.pr a.pt a.nd a.rc
 lf:a.fs.length<=4+a.k
 k5:a.k<=20
 hpt:SqT K H a.pt [.int (a.k:Int)]
 hnd:H a.nd=some (.dK (vK a.ys a.F))
 hpr:∃v1 v3 v4,X a.pr=some (.tup [.str a.nm,v1,.str a.res,v3,v4,.ref a.bd])
 hbd:X a.bd=some (.lst (a.ts.map V.ref))
 hl:a.ys.length<=100
structure StAt (K:Ab) (CF:Addr) (X H:Hp) (fl:Addr) (frs:List Fr):Prop where
 sX:Same X H
 xf:X fl=none
 hfl:H fl=some (.lst ((frs.map fun a=>V.ref a.p).reverse))
 fr:∀a∈frs,FrAt K CF X H a
 np:(frs.map (·.p)).Nodup
 nn:(frs.map (·.nd)).Nodup
noncomputable def a71 (a b:Fr):Prop:=a.rc = "" \/ (a.res∈a.ys/\a.rc∈b.ys)
noncomputable def Chain:List Fr->Prop
 | a::b::r=>a71 a b/\Chain (b::r)
 | _=>True
noncomputable def cn (a b:Fr):Fr:=if a.rc = "" then b else { b with F:=upF b.F a.rc (a.F a.res) }
noncomputable def dj:Nat->List Fr->List Fr
 | n+1,a::b::r=>if a.ts.length<=a.k then dj n (cn a b::r) else a::b::r
 | _,l=>l
theorem my (a b:Fr):(cn a b).nd=b.nd/\(cn a b).p=b.p/\(cn a b).ys=b.ys/\(cn a b).res=b.res/\(cn a b).rc=b.rc/\(cn a b).k=b.k/\(cn a b).ts=b.ts/\(cn a b).nm=b.nm:=by
 unfold cn;split<;>exact⟨rfl,rfl,rfl,rfl,rfl,rfl,rfl,rfl⟩
theorem Chain.give {a b:Fr}{r:List Fr}(h:Chain (a::b::r)):Chain (cn a b::r):=by
 have h2:=h.2
 obtain⟨e1,e2,e3,e4,e5,e6,e7,e8⟩:=my a b
 cases r with
 | nil=>trivial
 | cons c r=>exact⟨by unfold a71;rw[e3,e4,e5];exact h2.1,h2.2⟩
noncomputable def KpS (fl:Addr) (frs:List Fr) (H H':Hp):Prop:=∀b o,H b=some o->b≠fl->b∉frs.map (·.p)->b∉frs.map (·.nd)->H' b=some o
theorem FrAt.keep {K:Ab}{CF:Addr}{X H H':Hp}{a:Fr}(h:FrAt K CF X H a) (e:∀b o,H b=some o->(b=a.p\/b=a.nd\/((∀C d f,o≠.ins C d f)/\(∀kvs,o≠.dK kvs)/\∀l,o≠.lst l))->H' b=some o):FrAt K CF X H' a :=
 ⟨h.xp,h.xn,e _ _ h.hp (.inl rfl),h.ff,h.lf,h.k5,jc h.hpt fun o h1 h2 h3 h4=>e _ _ h1 (.inr (.inr ⟨h2,h3,h4⟩)),e _ _ h.hnd (.inr (.inl rfl)),h.hpr,h.hbd,h.hl⟩
theorem FrAt.same {K:Ab}{CF:Addr}{X H H':Hp}{a:Fr}(h:FrAt K CF X H a) (e:Same H H'):FrAt K CF X H' a:=h.keep fun b o z _=>e _ _ z
theorem StAt.same {K:Ab}{CF:Addr}{X H H':Hp}{fl:Addr}{frs:List Fr}(h:StAt K CF X H fl frs) (e:Same H H'):StAt K CF X H' fl frs:=⟨h.sX.trans e,h.xf,e _ _ h.hfl,fun a ha=>(h.fr a ha).same e,h.np,h.nn⟩
theorem StAt.pop {K:Ab}{CF:Addr}{X H:Hp}{fl:Addr}{a:Fr}{frs:List Fr}(h:StAt K CF X H fl (a::frs)):StAt K CF X (upd H fl (.lst ((frs.map fun a=>V.ref a.p).reverse))) fl frs:=by
 have ne:∀{b:Addr} {o:HO},H b=some o->(∀l,o≠.lst l)->b≠fl:=fun hb ho z=>by rw[z,h.hfl] at hb;cases hb;exact ho _ rfl
 refine⟨fun b o z=>by rw[ae (aj z h.xf)];exact h.sX _ _ z,h.xf,aa,fun c hc=>?_,(AX.mp h.np).2,(AX.mp h.nn).2⟩
 have hc':=h.fr c (An _ hc)
 refine hc'.keep fun b o z w=>?_
 rw[ae];exact z
 rcases w with rfl|rfl|w
 . exact ne z fun l y=>by rw[y,hc'.hp] at z;cases z
 . exact ne z fun l y=>by rw[y,hc'.hnd] at z;cases z
 . exact ne z w.2.2
theorem StAt.put {K:Ab}{CF:Addr}{X H:Hp}{fl:Addr}{b:Fr}{r:List Fr}{F':Str->Int}(h:StAt K CF X H fl (b::r)):StAt K CF X (upd H b.nd (.dK (vK b.ys F'))) fl ({ b with F:=F' }::r):=by
 have hb:=h.fr b Ah
 have ne:∀{c:Addr} {o:HO},H c=some o->(∀l,o≠.dK l)->c≠b.nd:=fun hc ho z=>by rw[z,hb.hnd] at hc;cases hc;exact ho _ rfl
 refine⟨fun c o z=>by rw[ae (aj z hb.xn)];exact h.sX _ _ z,h.xf,by rw[ae (ne h.hfl fun _ z=>by cases z)];exact h.hfl,fun c hc=>?_,h.np,h.nn⟩
 rcases Aq.mp hc with rfl|hc
 . exact⟨hb.xp,hb.xn,by show (upd H b.nd _) b.p=_;rw[ae (ne hb.hp fun _ z=>by cases z)];exact hb.hp,hb.ff,hb.lf,hb.k5,jc hb.hpt fun o h1 _ h3 _=>by rw[ae (ne h1 h3)];exact h1,aa,hb.hpr,hb.hbd,hb.hl⟩
 . have hc':=h.fr c (An _ hc)
   have nn:c.nd≠b.nd:=fun z=>(AX.mp h.nn).1 (by have y:=AH (f:=fun x:Fr=>x.nd) hc;rw[z] at y;exact y)
   refine hc'.keep fun d o z w=>?_
   rw[ae];exact z
   rcases w with rfl|rfl|w
   . exact ne z fun l y=>by rw[y,hc'.hp] at z;cases z
   . exact nn
   . exact ne z w.2.1
inductive spLeave (K:Ab) (CM CF:Addr) (vs:List V) (H:Hp) (Q:VK) (E:XK):Prop
 | mk (X:Hp) (m dm pd fl cd:Addr) (fm:List (Str×V)) (g:Int) (b:Bool) (a:Fr) (frs:List Fr) (h0:vs=[.ref m]) (hm:X m=some (.ins CM dm fm)) (hM:MFs fm pd fl cd g b) (hS:StAt K CF X H fl (a::frs)) (hc:Chain (a::frs)) (hlen:frs.length<=20)
     (q:∀H',StAt K CF X H' fl (dj (a::frs).length (a::frs))->KpS fl (a::frs) H H'->Q .non H'):spLeave K CM CF vs H Q E
theorem scLeave:FnScope ["self","ended"] ["self"] (aq rh):=⟨rfl,rfl,rfl,by decide +kernel,rfl,by decide +kernel,by decide +kernel⟩
theorem a5v (C:Con K mg w) (T:TxM K mg CM fI) (U:TxF K mg CF fJ) (F:Fun K "leave_ended" "Machine.leave_ended" rh f fd) (GD:FnOk P w K mg base CX0 4 gD dD ["self"] (o0 K CF)) (cD:MCal K CF "deed" gD dD ["self"]):FnOk P w K mg base CX0 5 f fd ["self"] (spLeave K CM CF):=by
 refine F.okQ scLeave (fun vs H Q E h=>?_) (fun cdv A outer s0 H vs Q E hr h=>?_)
 . obtain⟨_,_,_,_,_,_,_,_,_,_,_,rfl,_⟩:=h;rfl
 obtain⟨X,m,dm,pd,fl,cd,fm,g,b,a0,frs0,rfl,hm,hM,hS0,hc0,hlen,q⟩:=h
 have nd:=scLeave.nd
 have hu1:=dw hr
 refine⟨_,(ai (kj AM (QW.qt (jf (ay qh (bc (lenK (K:=K) rfl) rfl C.len Bk (cg (b4 (K:=K) rfl (qv 0)) ad)) ac (az _)) (ik (ay wg (cy (ah (ixK (K:=K) rfl) (b4 (K:=K) rfl (qv 0)) (c5 bw ac) (fun _ _=>rfl)) U.cl cD.meth GD hr cD.bind .nil ap) i6 (az _))))) (af (aw (i:=1) nd rfl (Or.inl rfl) (a4h AW Hb Hc a3h (b4 (K:=K) rfl (qv 0))))
   (ai (bf (ay kx (b4 (K:=K) rfl (qv 1)) b6 (az _)) (ai (cm hu1 (b4 (K:=K) rfl (ah (ixK (K:=K) rfl) (b4 (K:=K) rfl (qv 0)) (c5 bw ac) (fun _ _=>rfl))) (b4 (K:=K) rfl (qv 1)) (em hu1 (b4 (K:=K) rfl (qv 1)) (ah (ixTK (K:=K) rfl) (b4 (K:=K) rfl (qv 1)) ac (fun _ _=>rfl)) (fun _ _=>rfl)))) bo))))),?_⟩
 refine⟨fun n σ H'=>∃(a:Fr) (frs:List Fr) (z1:Option V),n=frs.length/\σ=[some (.ref m),z1]/\StAt K CF X H' fl (a::frs)/\Chain (a::frs)/\dj (a::frs).length (a::frs)=dj (a0::frs0).length (a0::frs0)/\KpS fl (a0::frs0) H H'/\(∀c∈a::frs,c.p∈(a0::frs0).map (·.p)/\c.nd∈(a0::frs0).map (·.nd)),⟨frs0.length,a0,frs0,none,rfl,rfl,hS0,hc0,rfl,fun _ _ z _ _ _=>z,fun c hc=>⟨AH hc,AH hc⟩⟩,?_⟩
 rintro n σ H1 ⟨a,frs,z1,rfl,rfl,S,ch,eq,kp,inn⟩
 have Sa:=S.fr a Ah
 have hmH:=S.sX _ _ hm
 have lenf:∀r:List Fr,((r.map fun a=>V.ref a.p).reverse).length=r.length:=fun r=>by rw[Dj,Ad]
 refine⟨_,rfl,m,CM,dm,fm,_,rfl,hmH,T.cl,T.nF,hM.frames,fl,_,rfl,.inl (SqL.of S.hfl),_,_,rfl,rfl,_,rfl,iteB (fun c1=>?_) (fun c1=>?_)⟩
 have hfl':H1 fl=some (.lst ((frs.map fun a=>V.ref a.p).reverse++[V.ref a.p])):=by rw[S.hfl,AC,BZ]
 . rw[lenf] at c1
   obtain⟨b',r,rfl⟩:∃b' r,frs=b'::r:=by
     cases frs with
     | nil=>exact absurd (of_decide_eq_true c1) (by simp)
     | cons b' r=>exact⟨b',r,rfl⟩
   obtain⟨v1,v3,v4,hpr⟩:=Sa.hpr
   refine⟨_,rfl,m,CM,dm,fm,_,rfl,hmH,T.cl,T.nF,hM.frames,_,rfl,fl,_,_,_,rfl,rfl,SqL.of hfl',bh,a.p,a.dx,a.fs,rfl,Sa.hp,Sa.ff.meth _ (by simp),a.p,a.dx,a.pr,a.pt,a.nd,a.bd,a.fs,a.rc,_,v1,_,v3,v4,rfl,Sa.hp,Sa.ff,S.sX _ _ hpr,a.bd,a.pt,a.bd,[],a.k,a.ts,rfl,Sa.hpt,rfl,A8 _,S.sX _ _ Sa.hbd,fun t H2 ht e2=>?_,fun H2 hn e2=>?_⟩
   . have hlt:=(Ao.mp ht).1
     refine⟨rfl,_,rfl,iteB (fun c=>by cases c) (fun _=>?_)⟩
     have e:=eq
     rw[show dj (a::b'::r).length (a::b'::r)=a::b'::r from if_neg (by omega)] at e
     have S2:=S.same e2
     rw[e] at S2
     exact q _ S2 fun b o z n1 n2 n3=>e2 _ _ (kp b o z n1 n2 n3)
   . have hge:a.ts.length<=a.k:=by
       rcases EC a.k a.ts.length with z|z
       . rw[Af z] at hn;cases hn
       . exact z
     have S2:=S.same e2
     have Sa2:=S2.fr a Ah
     have hfl2:=e2 _ _ hfl'
     refine⟨rfl,_,rfl,iteB (fun _=>?_) (fun c=>by cases c)⟩
     refine⟨fun σ' H'=>∃z1,σ'=[some (.ref m),z1]/\StAt K CF X H' fl (cn a b'::r)/\KpS fl (a0::frs0) H H',fun σ' H' hN=>?_,?_⟩
     . obtain⟨z1',rfl,S',kp'⟩:=hN
       obtain⟨g1,g2,_⟩:=my a b'
       refine⟨r.length,Ce _,cn a b',r,z1',rfl,rfl,S',ch.give,?_,kp',fun c hc=>?_⟩
       . rw[<- eq]
         exact (show dj (a::b'::r).length (a::b'::r)=dj (cn a b'::r).length (cn a b'::r) from if_pos hge).symm
       . rcases Aq.mp hc with rfl|hc
         . rw[g1,g2];exact inn b' (An _ Ah)
         . exact inn c (An _ (An _ hc))
     . have hdl:(((b'::r).map fun a=>V.ref a.p).reverse++[V.ref a.p]).dropLast=((b'::r).map fun a=>V.ref a.p).reverse:=Ho
       have hla:(((b'::r).map fun a=>V.ref a.p).reverse++[V.ref a.p])[(((b'::r).map fun a=>V.ref a.p).reverse++[V.ref a.p]).length - 1]? = some (V.ref a.p):=by
         rw[Ag,AK,HP];exact Fb
       refine ao (a:=tAsg _ _) fun D1 hD1 _ _=>?_
       refine⟨_,rfl,m,CM,dm,fm,_,rfl,S2.sX _ _ hm,T.cl,T.nF,hM.frames,.inl ⟨rfl,_,SqL.of hfl2⟩,fl,_,_,rfl,rfl,hfl2,hla,?_⟩
       rw[hdl]
       have S3:=S2.pop
       have kp3:KpS fl (a0::frs0) H (upd H2 fl (.lst (((b'::r).map fun a=>V.ref a.p).reverse))):=fun b o z n1 n2 n3=>by rw[ae n1];exact e2 _ _ (kp b o z n1 n2 n3)
       have ap3:(upd H2 fl (.lst (((b'::r).map fun a=>V.ref a.p).reverse))) a.p=some (.ins CF a.dx a.fs):=by rw[ae (fun z=>by have y:=Sa2.hp;rw[z,hfl2] at y;cases y)];exact Sa2.hp
       have an3:(upd H2 fl (.lst (((b'::r).map fun a=>V.ref a.p).reverse))) a.nd=some (.dK (vK a.ys a.F)):=by rw[ae (fun z=>by have y:=Sa2.hnd;rw[z,hfl2] at y;cases y)];exact Sa2.hnd
       generalize upd H2 fl (.lst (((b'::r).map fun a=>V.ref a.p).reverse))=H3 at S3 kp3 ap3 an3 |-
       refine hD1 [some (.ref m),some (.ref a.p)] _ ?_
       refine⟨_,rfl,a.p,CF,a.dx,a.fs,_,rfl,ap3,U.cl,U.nR,Sa.ff.receiver,rfl,_,rfl,iteB (fun c=>?_) (fun c=>?_)⟩
       . have nrc:a.rc ≠ "" := fun z=>by rw[z] at c;exact absurd c (by decide +kernel)
         obtain⟨h1,h2⟩:=ch.1.resolve_left nrc
         have Sb:=S3.fr b' Ah
         have hfl3:H3 fl=some (.lst ((r.map fun a=>V.ref a.p).reverse++[V.ref b'.p])):=by rw[S3.hfl,AC,BZ]
         have gd:=DGet.k (k:=Sum.inr a.res) an3
         rw[ja h1] at gd
         refine⟨_,rfl,a.p,CF,a.dx,a.fs,_,rfl,ap3,U.cl,U.nN,Sa.ff.numbers,_,rfl,a.p,CF,a.dx,a.fs,_,rfl,ap3,U.cl,U.nP,Sa.ff.procedure,a.pr,_,2,_,rfl,rfl,SqT.of (S3.sX _ _ hpr),rfl,a.nd,_,rfl,gd,?_⟩
         refine⟨_,rfl,m,CM,dm,fm,_,rfl,S3.sX _ _ hm,T.cl,T.nF,hM.frames,_,rfl,fl,_,_,_,rfl,rfl,SqL.of hfl3,bh,b'.p,CF,b'.dx,b'.fs,_,rfl,Sb.hp,U.cl,U.nN,Sb.ff.numbers,_,rfl,a.p,CF,a.dx,a.fs,_,rfl,ap3,U.cl,U.nR,Sa.ff.receiver,b'.nd,_,rfl,DPut.k (k:=Sum.inr a.rc) Sb.hnd (bu (by unfold vK;rw[Ad];have:=Sb.hl;omega)),?_⟩
         rw[m6 h2]
         refine⟨_,rfl,?_,fun c o z n1 n2 n3=>?_⟩
         . rw[show cn a b'={ b' with F:=upF b'.F a.rc (a.F a.res) } from if_neg nrc];exact S3.put
         . rw[ae (fun e=>n3 (by rw[e];exact (inn b' (An _ Ah)).2))];exact kp3 c o z n1 n2 n3
       . have erc:a.rc = "" := by
           rw[HQ] at c
           exact V.str.inj (of_decide_eq_true c)
         refine⟨_,rfl,?_,kp3⟩
         rw[show cn a b'=b' from if_pos erc];exact S3
 . have e1:frs=[]:=by
     cases frs with
     | nil=>rfl
     | cons b' r=>rw[lenf] at c1;exact absurd (show ((a::b'::r).length:Int)>1 by simp only[AD];omega) (of_decide_eq_false c1)
   subst e1
   have e:=eq
   rw[show dj [a].length [a]=[a] from rfl] at e
   rw[e] at S
   exact (if_neg Am).mpr (q _ S kp)
end K52
namespace L2
open PySem PySem.Spec PyProof.Rows
section
variable {prog:Program}{w:World}{A:Around}{E:Value->Shared->Prop}{u:Shared}
theorem a3o {z ti to j1 j2 q1 q2:Addr}{k1 k2:Nat}{xs ys:Array Value}{x y a b:Value}{R:Option Value->Shared->Prop}(D:ZipApart z ti to j1 j2 q1 q2) (g1:IsZip u.heap z ti to .none) (g2:IsPair u.heap ti (.ref j1) (.ref j2)) (g3:IsPair u.heap to a b)
   (t1:u.heap.IsTupleIter j1 q1 k1) (t2:u.heap.IsListIter j2 q2 k2) (v1:u.heap.IsTuple q1 xs) (v2:u.heap.IsList q2 ys) (hx:xs[k1]? = some x) (hy:ys[k2]? = some y)
   (hR:∀g,IsZip g z ti to (rawInt u.heap.objs.size)->IsPair g to x y->g.IsTupleIter j1 q1 (k1+1)->g.IsListIter j2 q2 (k2+1)->IsPair g u.heap.objs.size x y->
     (∀c o,c≠z->c≠to->c≠j1->c≠j2->u.heap.get? c=some o->g.get? c=some o)->R (some (.ref u.heap.objs.size)) { u with heap:=g }):wpAny (model prog w) A (pyNext (.ref z)) R E u:=by
 have ty:u.TypeIs (.ref z) "zip" := ⟨_,g1,rfl⟩
 unfold pyNext
 refine Aa (CO (Bc ty Cb (Bj Cb ty DL ?_ (DA _))))
 show wpAny (model prog w) _ (field (.ref z) 2 >>= _) _ _ u
 refine Aa (Bd g1 rfl (x:=.bool false) rfl ?_)
 show wpAny (model prog w) _ (field (.ref z) 3 >>= _) _ _ u
 refine Aa (Bd g1 rfl (x:=.ref ti) rfl (Aa (Bb g2 rfl ?_)))
 show wpAny (model prog w) _ (AN (.ref z) >>= _) _ _ u
 refine Aa ?_
 unfold AN
 refine Aa (Bd g1 rfl (x:=.none) rfl (Ae ?_))
 simp only[if_true]
 refine Aa (Cn (Aa (Bd g1 rfl (x:=.ref to) rfl (Aa (Bf g1 (by simp) fun m1 y1 d1=>?_)))))
 have z1:IsZip m1 z ti to .ellipsis:=y1
 refine Aa ?_
 simp only[FJ,FW,DR,Ed]
 refine Aa (Aa (Er ?_))
 show wpAny (model prog w) _ (AY (.ref j1) >>= _) _ _ _
 refine Aa (uk (t1.extBut d1.extBut D.i1z) (v1.extBut d1.extBut D.l1z) hx fun m2 y2 d2=>Ae ?_)
 have o2:IsPair m2 to a b:=d2.extBut _ _ D.TOi1 (d1.extBut _ _ D.TOz g3)
 refine Aa (Bb o2 rfl (Aa (DM o2 fun m3 y3 d3=>Aa (Dw (Ae ?_)))))
 have o3:IsPair m3 to x b:=y3
 refine Aa (Aa (Er ?_))
 show wpAny (model prog w) _ (AY (.ref j2) >>= _) _ _ _
 have w2:=((t2.extBut d1.extBut D.i2z).extBut d2.extBut D.i12.symm).extBut d3.extBut D.TOi2.symm
 have x2:=((v2.extBut d1.extBut D.l2z).extBut d2.extBut D.l2i1).extBut d3.extBut D.l2TO
 refine Aa (Gm w2 x2 hy fun m4 y4 d4=>Ae ?_)
 have o4:IsPair m4 to x b:=d4.extBut _ _ D.TOi2 o3
 refine Aa (Bb o4 rfl (Aa (DM o4 fun m5 y5 d5=>Aa (Dw (Ae (Ae ?_))))))
 have o5:IsPair m5 to x y:=y5
 refine Aa (Bb o5 rfl (Aa (GJ ?_)))
 have sz:m5.objs.size=u.heap.objs.size:=by rw[d5.1,d4.1,d3.1,d2.1,d1.1]
 have z5:IsZip m5 z ti to .ellipsis:=d5.extBut _ _ D.TOz.symm (d4.extBut _ _ D.i2z.symm (d3.extBut _ _ D.TOz.symm (d2.extBut _ _ D.i1z.symm z1)))
 have kp:∀c o,c≠z->c≠to->c≠j1->c≠j2->u.heap.get? c=some o->m5.get? c=some o:=fun c o n1 n2 n3 n4 e=>d5.extBut _ _ n2 (d4.extBut _ _ n4 (d3.extBut _ _ n2 (d2.extBut _ _ n3 (d1.extBut _ _ n1 e))))
 have p1:m5.IsTupleIter j1 q1 (k1+1):=((y2.extBut d3.extBut D.TOi1.symm).extBut d4.extBut D.i12).extBut d5.extBut D.TOi1.symm
 have p2:m5.IsListIter j2 q2 (k2+1):=y4.extBut d5.extBut D.TOi2.symm
 show wpAny (model prog w) _ (Cf (.ref z) (.ref m5.objs.size) >>= _) _ _ _
 refine Aa ?_
 unfold Cf
 have z6:IsZip (m5.push { cls:=.type "tuple",data:=.seq #[x,y] }) z ti to .ellipsis:=Ac _ z5
 refine Aa (Bf z6 (by simp) fun m7 y7 d7=>?_)
 have z7:IsZip m7 z ti to (rawInt m5.objs.size):=y7
 refine Bf z7 (by simp) fun m8 y8 d8=>?_
 have z8:IsZip m8 z ti to (rawInt m5.objs.size):=y8
 have lift:∀c o,c≠z->m5.get? c=some o->m8.get? c=some o:=fun c o n1 e=>d8.extBut _ _ n1 (d7.extBut _ _ n1 (Ac _ e))
 have nz:m5.objs.size≠z:=BD (Ap z5)
 have np:IsPair m8 m5.objs.size x y:=d8.extBut _ _ nz (d7.extBut _ _ nz (Ak _ rfl))
 rw[sz] at z8 np
 refine Ae ⟨_,rfl,Ae ?_⟩
 show R (some (.ref m5.objs.size)) _
 rw[sz]
 exact hR m8 z8 (lift _ _ D.TOz o5) (p1.at fun o e=>lift _ o D.i1z e) (p2.at fun o e=>lift _ o D.i2z e) np fun c o n1 n2 n3 n4 e=>lift c o n1 (kp c o n1 n2 n3 n4 e)
end
theorem a4n {X:Cx}{pins:List (Addr×Obj)}{σ:St}{H:Hp}{s:Shared}{l:Addr}{xs:List V}(I:Inv X pins σ H s) (h:SqL X.K H l xs) (f:FpOk X pins H l):False:=by
 rcases h with (q|⟨o,q⟩)|⟨o,its,n,q,_⟩
 . rw[f.1] at q;cases q
 . rw[f.1] at q;cases q
 . have e:=I.ok.mod.kin _ _ q
   rcases f.2.2.2.1 with z|z
   . exact I.ok.noex l o e z
   . exact absurd (AB (Ap e) (A0 I.ok.bsz z)) (AZ _)
theorem a2q (l1 l2:Addr) (xs ys:Array Value):Meets (Builtin.«zip.__new__» ⟨[.type "zip",.ref l1,.ref l2],[]⟩) (fun _ R s=>s.heap.IsTuple l1 xs/\s.heap.IsList l2 ys/\
   R (.ok (.ret (.ref (s.heap.objs.size+4)))) { s with heap:=((((s.heap.push { cls:=.type "tuple_iterator",data:=.fields #[.ref l1,.int 0 0] }).push { cls:=.type "list_iterator",data:=.fields #[.ref l2,.int 0 0] }).push { cls:=.type "tuple",data:=.seq #[.ref s.heap.objs.size,.ref (s.heap.objs.size+1)] }).push { cls:=.type "tuple",data:=.seq #[.none,.none] }).push { cls:=.type "zip",data:=.fields #[.none,.bool false,.bool false,.ref (s.heap.objs.size+2),.ref (s.heap.objs.size+3)] } }) :=
 .of_wp fun prog w A R s h=>by
   obtain⟨m,g,d,tk,os⟩:=s
   obtain⟨a1,a2,h⟩:=h
   have sub:=sub_zip
   have b1:HM (Gh ⟨m,g,d,tk,os⟩) l1 xs:=a1
   have b2:Heap.IsList (Gh ⟨m.push { cls:=.type "tuple_iterator",data:=.fields #[.ref l1,.int 0 0] },g,d,tk,os⟩) l2 ys:=by
     obtain⟨o,e,r⟩:=a2
     exact⟨o,Ac _ e,r⟩
   have z1:(m.push { cls:=.type "tuple_iterator",data:=.fields #[.ref l1,.int 0 0] }).objs.size=m.objs.size+1:=Bh ..
   wp_walk using DT b1,Cw b2
   refine⟨_,rfl,?_⟩
   simp only[Bh]
   exact h
section
variable {X:Cx}
end
end L2
namespace Kz
open PySem PyProof.Rows
theorem sm:typeLookup (.type "zip") "keys" = pure none:=by rw[CL,Cc];kernel_rfl
theorem a0k:typeLookup (.type "zip") "__getattr__" = pure none:=by rw[CL,Cc];kernel_rfl
theorem jh:isSubtype (.type "AttributeError") (.type "AttributeError")=pure true:=by rw[Ec];kernel_rfl
theorem xu:entryFor table "zip.__getattribute__" = some Builtin.«object.__getattribute__» := Gv (id' := "object.__getattribute__") (by kernel_rfl) (by first|rfl|decide +kernel) (by decide +kernel) (by kernel_rfl)
section
variable {prog:Program}{w:World}{A:Around}{E:Value->Shared->Prop}{h:Heap}{g:Array GenState}{d:Drawn}{t:Nat}{os:OsState}{a:Addr}{o:Obj}
set_option maxHeartbeats 16000000 in
theorem a0n {tk:Tok}{Q:Fin->Shared->Prop}(hh:A.handled=none) {xs:Array Value}{sl:Array (Option Value)}(hx:h.get? a=some { cls:=.type "zip",dict:=none,data:=.fields xs,slots:=sl })
   (hq:∀h' e t',(∀b u,h.get? b=some u->h'.get? b=some u)->(∃oe,h'.get? e=some oe/\oe.cls=.type "AttributeError")->h.objs.size<=h'.objs.size->E (.ref e) ⟨h',g,d,t',os⟩) :
   wpAny (model prog w) A (Builtin.«object.__getattribute__» ⟨[.ref a,.str "keys" tk],[]⟩) Q E ⟨h,g,d,t,os⟩:=by
 have hT:(⟨h,g,d,t,os⟩:Shared).TypeIs (.ref a) "zip" := ⟨_,hx,rfl⟩
 have f4:=sm
 repeat (any_goals (first|assumption|wp_step))
 have hm:(Bq (toString "'" ++ toString ((ET "zip").elim "zip" fun x=>x.tpName)++toString "' object has no attribute '")++Bq "keys" ++ Bq "'").length<=sizeLine:=by decide +kernel
 generalize (Bq (toString "'" ++ toString ((ET "zip").elim "zip" fun x=>x.tpName)++toString "' object has no attribute '")++Bq "keys" ++ Bq "'")=msg at hm |-
 unfold raiseAttrError
 repeat (any_goals (first|assumption|wp_step))
 have f5:isSubtype (.type "AttributeError") (.type "AttributeError")=pure true:=jh
 dsimp only
 repeat (any_goals (first|assumption|wp_step))
 generalize hO:({ cls:=Value.type "AttributeError",data:=_ }:Obj)=oe
 generalize hT2:({ cls:=Value.type "tuple",data:=Data.seq #[Value.str msg t] }:Obj)=ot
 have hoc:oe.cls=.type "AttributeError" := by rw[<- hO]
 have hof:∃vs,oe.data=.fields vs:=⟨_,by rw[<- hO]⟩
 obtain⟨vs,hvs⟩:=hof
 have e1:((h.push ot).push oe).get? (h.push ot).objs.size=some oe:=Ak _ (by rw[<- hO];rfl)
 refine EF hh (hq _ _ _ (fun b u hb=>?_) ⟨_,Bp _ e1 (DD (CJ hvs _)),(Ek ..).trans hoc⟩ ?_)
 . have hlt:=Ap (Ac ot hb)
   rw[Hu _ _ _ _ (Aw hlt)]
   exact Ac _ (Ac _ hb)
 . rw[Iu,size_push',size_push'];omega
set_option maxHeartbeats 16000000 in
theorem attr {Q:Option Value->Shared->Prop}(hh:A.handled=none) {xs:Array Value}{sl:Array (Option Value)}(hx:h.get? a=some { cls:=.type "zip",dict:=none,data:=.fields xs,slots:=sl })
   (hq:∀h' t',(∀b u,h.get? b=some u->h'.get? b=some u)->h.objs.size<=h'.objs.size->Q none ⟨h',g,d,t',os⟩):wpAny (model prog w) A (getAttr? (.ref a) "keys") Q E ⟨h,g,d,t,os⟩:=by
 have hT:(⟨h,g,d,t,os⟩:Shared).TypeIs (.ref a) "zip" := ⟨_,hx,rfl⟩
 have hT1:(⟨h,g,d,t+1,os⟩:Shared).TypeIs (.ref a) "zip" := ⟨_,hx,rfl⟩
 have f2:=F.slot_zip_getattribute.lookup
 have f3:=F.slot_zip_getattribute.bind (.ref a)
 have f5:isSubtype (.type "AttributeError") (.type "AttributeError")=pure true:=jh
 unfold getAttr? getAttrBy?
 repeat (any_goals (first|assumption|wp_step))
 refine DH F.slot_zip_getattribute.plain xu (F.slot_zip_getattribute.check _ _ _ _ _ _ _ _ hT1 (F.args_zip_getattribute_2 _ _) (a0n ?_ hx fun h' e t' k he hs=>?_))
 . exact hh
 obtain⟨oe,he1,he2⟩:=he
 have hTe:(⟨h',g,d,t',os⟩:Shared).TypeIs (.ref e) "AttributeError" := ⟨_,he1,he2⟩
 have f6:=a0k
 have hfin:=hq h' t' k hs
 show wpAny (model prog w) A (getattributeRaised (Value.ref a) (Value.str (Bq "keys") t) (Value.type "zip") (.ref e) none false false) _ _ _
 repeat (any_goals (first|assumption|wp_step))
end
end Kz
namespace L2
open PySem PySem.Spec PyProof.Rows
abbrev IsZ2 (h:Heap) (z ti to T:Addr) (f:Bool):Prop:=h.get? z=some { cls:=.type "zip",dict:=none,data:=.fields #[rawInt T,.bool f,.bool false,.ref ti,.ref to],slots := #[] }
section
variable {prog:Program}{w:World}{A:Around}{E:Value->Shared->Prop}{u:Shared}
theorem uc {z ti to T:Addr}{f:Bool}{a b:Value}{Q:Bool->Shared->Prop}(g1:IsZ2 u.heap z ti to T f) (gT:IsPair u.heap T a b) (hQ:∀g,IsZ2 g z ti to T true->Ck z u.heap g->Q false { u with heap:=g }):wpAny (model prog w) A (AN (.ref z)) Q E u:=by
 unfold AN
 refine Aa (Bd g1 rfl (x:=rawInt T) rfl ?_)
 show wpAny _ _ (loadIfAlive T >>= _) _ _ _
 refine Aa (PySem.W.kdx_alive gT ?_)
 rw[if_neg (by simp)]
 refine Aa (Bd g1 rfl (x:=.bool f) rfl ?_)
 cases f with
 | false =>
   rw[if_pos (by decide)]
   refine Aa (Bf g1 (by simp) fun m y d=>Ae (hQ m y d))
 | true =>
   rw[if_neg (by decide)]
   exact Ae (hQ u.heap g1 ⟨rfl,fun _ _=>rfl⟩)
theorem a3f {z ti to T j1 j2 q1 q2:Addr}{f:Bool}{k1 k2:Nat}{xs ys:Array Value}{x y a b:Value}{R:Option Value->Shared->Prop}(D:ZipApart z ti to j1 j2 q1 q2) (hT:T≠z) (g1:IsZ2 u.heap z ti to T f) (gT:IsPair u.heap T a b) (g2:IsPair u.heap ti (.ref j1) (.ref j2))
   (t1:u.heap.IsTupleIter j1 q1 k1) (t2:u.heap.IsListIter j2 q2 k2) (v1:u.heap.IsTuple q1 xs) (v2:u.heap.IsList q2 ys) (hx:xs[k1]? = some x) (hy:ys[k2]? = some y)
   (hR:∀g,IsZ2 g z ti to T true->g.IsTupleIter j1 q1 (k1+1)->g.IsListIter j2 q2 (k2+1)->IsPair g u.heap.objs.size x y->
     (∀c o,c≠z->c≠j1->c≠j2->u.heap.get? c=some o->g.get? c=some o)->R (some (.ref u.heap.objs.size)) { u with heap:=g }):wpAny (model prog w) A (pyNext (.ref z)) R E u:=by
 have ty:u.TypeIs (.ref z) "zip" := ⟨_,g1,rfl⟩
 unfold pyNext
 refine Aa (CO (Bc ty Cb (Bj Cb ty DL ?_ (DA _))))
 show wpAny (model prog w) _ (field (.ref z) 2 >>= _) _ _ u
 refine Aa (Bd g1 rfl (x:=.bool false) rfl ?_)
 show wpAny (model prog w) _ (field (.ref z) 3 >>= _) _ _ u
 refine Aa (Bd g1 rfl (x:=.ref ti) rfl (Aa (Bb g2 rfl ?_)))
 show wpAny (model prog w) _ (AN (.ref z) >>= _) _ _ u
 refine Aa (uc g1 gT fun m1 y1 d1=>?_)
 simp only[if_false,Bo]
 refine Aa ?_
 rw[<- HR]
 simp only[DR,Ed]
 refine Aa (Aa (AS ?_))
 show wpAny (model prog w) _ (AY (.ref j1) >>= _) _ _ _
 refine Aa (uk (t1.extBut d1.extBut D.i1z) (v1.extBut d1.extBut D.l1z) hx fun m2 y2 d2=>Ae (Ae ?_))
 refine Aa (Aa (AS ?_))
 show wpAny (model prog w) _ (AY (.ref j2) >>= _) _ _ _
 refine Aa (Gm ((t2.extBut d1.extBut D.i2z).extBut d2.extBut D.i12.symm) ((v2.extBut d1.extBut D.l2z).extBut d2.extBut D.l2i1) hy fun m3 y3 d3=>Ae (Ae (Ae ?_)))
 have sz:m3.objs.size=u.heap.objs.size:=by rw[d3.1,d2.1,d1.1]
 have z3:IsZ2 m3 z ti to T true:=d3.extBut _ _ D.i2z.symm (d2.extBut _ _ D.i1z.symm y1)
 refine Aa (GJ (hsz:=show 2<=sizeLine by decide) (Ae ?_))
 refine⟨_,rfl,Ae ?_⟩
 show R (some (.ref m3.objs.size)) _
 rw[sz]
 have np:IsPair (m3.push { cls:=.type "tuple",data:=.seq #[x,y] }) m3.objs.size x y:=Ak _ rfl
 rw[sz] at np
 exact hR _ (Ac _ z3) ((y2.extBut d3.extBut D.i12).at fun o e=>Ac _ e) (y3.at fun o e=>Ac _ e) np fun c o n1 n2 n3 e=>Ac _ (d3.extBut _ _ n3 (d2.extBut _ _ n2 (d1.extBut _ _ n1 e)))
theorem a6a {z ti to T j1 j2 q1 q2:Addr}{f:Bool}{k1:Nat}{xs:Array Value}{a b:Value}{R:Option Value->Shared->Prop}(hh:A.handled=none) (D:ZipApart z ti to j1 j2 q1 q2) (g1:IsZ2 u.heap z ti to T f) (gT:IsPair u.heap T a b) (g2:IsPair u.heap ti (.ref j1) (.ref j2))
   (t1:u.heap.IsTupleIter j1 q1 k1) (v1:u.heap.IsTuple q1 xs) (hx:xs[k1]? = none) (hR:∀g,(∀c o,c≠z->c≠j1->u.heap.get? c=some o->g.get? c=some o)->R none { u with heap:=g }):wpAny (model prog w) A (pyNext (.ref z)) R E u:=by
 have ty:u.TypeIs (.ref z) "zip" := ⟨_,g1,rfl⟩
 unfold pyNext
 refine Aa (CO (Bc ty Cb (Bj Cb ty DL ?_ (DA _))))
 show wpAny (model prog w) _ (field (.ref z) 2 >>= _) _ _ u
 refine Aa (Bd g1 rfl (x:=.bool false) rfl ?_)
 show wpAny (model prog w) _ (field (.ref z) 3 >>= _) _ _ u
 refine Aa (Bd g1 rfl (x:=.ref ti) rfl (Aa (Bb g2 rfl ?_)))
 show wpAny (model prog w) _ (AN (.ref z) >>= _) _ _ u
 refine Aa (uc g1 gT fun m1 y1 d1=>?_)
 simp only[if_false,Bo]
 refine Aa ?_
 rw[<- HR]
 simp only[DR,Ed]
 refine Aa (Aa (AS ?_))
 show wpAny (model prog w) _ (AY (.ref j1) >>= _) _ _ _
 refine Aa (u8 hh (t1.extBut d1.extBut D.i1z) (v1.extBut d1.extBut D.l1z) hx fun m2 e d2 he=>?_)
 obtain⟨oe,e1,e2⟩:=he
 refine Aa (DJ (T := "StopIteration") (b:=true) ⟨oe,e1,e2⟩ EN ?_)
 exact Ae (hR m2 fun c o n1 n3 q=>d2 _ _ n3 (d1.extBut _ _ n1 q))
end
inductive ZSt (h:Heap) (n l1 l2 p:Addr):Nat->Prop
 | z0 (a b:Value) (g1:IsZip h (n+4) (n+2) (n+3) .none) (g2:IsPair h (n+2) (.ref n) (.ref (n+1))) (g3:IsPair h (n+3) a b) (t1:h.IsTupleIter n l1 0) (t2:h.IsListIter (n+1) l2 0):ZSt h n l1 l2 p 0
 | zs (i:Nat) (T:Addr) (f:Bool) (a b:Value) (hT:p<T) (g1:IsZ2 h (n+4) (n+2) (n+3) T f) (gT:IsPair h T a b) (g2:IsPair h (n+2) (.ref n) (.ref (n+1))) (t1:h.IsTupleIter n l1 (i+1)) (t2:h.IsListIter (n+1) l2 (i+1)):ZSt h n l1 l2 p (i+1)
theorem ZSt.keep {h h':Heap}{n l1 l2 p:Addr}{i:Nat}(z:ZSt h n l1 l2 p i) (hn:n+4<p) (k:∀c o,c≠p->h.get? c=some o->h'.get? c=some o):ZSt h' n l1 l2 p i:=by
 have a1:n+4≠p:=Aw hn
 have a2:n+2≠p:=Aw (AL (Ca (show 2<=4 by decide) n) hn)
 have a3:n+3≠p:=Aw (AL (Ca (show 3<=4 by decide) n) hn)
 have a4:n≠p:=Aw (AL (Bu n 4) hn)
 have a5:n+1≠p:=Aw (AL (Ca (show 1<=4 by decide) n) hn)
 cases z with
 | z0 a b g1 g2 g3 t1 t2=>exact .z0 a b (k _ _ a1 g1) (k _ _ a2 g2) (k _ _ a3 g3) (t1.at fun o e=>k _ o a4 e) (t2.at fun o e=>k _ o a5 e)
 | zs i T f a b hT g1 gT g2 t1 t2=>exact .zs i T f a b hT (k _ _ a1 g1) (k _ _ (BD hT) gT) (k _ _ a2 g2) (t1.at fun o e=>k _ o a4 e) (t2.at fun o e=>k _ o a5 e)
section
variable {X:Cx}{pins:List (Addr×Obj)}{σ:St}{H:Hp}{n l1 l2 p:Addr}{i:Nat}{s:Shared}{A:Around}{E:Value->Shared->Prop}{xs ys:List V}{x y:V}
theorem ZSt.item (I:Inv X pins σ H s) (z:ZSt s.heap n l1 l2 p i) (hf:∀b∈bg n,FpOk X pins H b) (q1:SqT X.K H l1 xs) (q2:SqL X.K H l2 ys) (hx:xs[i]? = some x) (hy:ys[i]? = some y) (hp:p<s.heap.objs.size)
   {R:Option Value->Shared->Prop} (hR:∀u v s1,RelV x u->RelV y v->IsPair s1.heap s.heap.objs.size u v->Inv X pins σ H s1->ZSt s1.heap n l1 l2 p (i+1)->s1.toks=s.toks->R (some (.ref s.heap.objs.size)) s1):wpAny (model X.prog X.w) A (pyNext (.ref (n+4))) R E s:=by
 obtain⟨its1,r1,L1,_⟩:=I.tuple q1
 obtain⟨its2,r2,L2,_⟩:=I.list q2
 obtain⟨u,hu,ru⟩:=r1.get hx
 obtain⟨v,hv,rv⟩:=r2.get hy
 have D:ZipApart (n+4) (n+2) (n+3) n (n+1) l1 l2:=gy (fun z=>nj I q1 (hf _ z)) (fun z=>a4n I q2 (hf _ z))
 cases z with
 | z0 a b g1 g2 g3 t1 t2 =>
   refine a3o D g1 g2 g3 t1 t2 (show s.heap.IsTuple l1 its1.toArray from L1) L2.isList (x:=u) (y:=v) (by simpa using hu) (by simpa using hv) fun h' a1 a2 a3 a4 a5 hk=>?_
   refine hR u v _ ru rv a5 (I.turnedL (ch:=bg n) (t':=s.toks) (fun b o hb e=>?_) hf) (.zs 0 s.heap.objs.size false u v hp a1 a5 (hk _ _ D.TIz D.TITO D.TIi1 D.TIi2 g2) a3 a4) rfl
   unfold bg at hb
   simp only[Aq,AE,or_false,not_or] at hb
   exact hk b o hb.1 hb.2.2.1 hb.2.2.2.1 hb.2.2.2.2 e
 | zs i T f a b hT g1 gT g2 t1 t2 =>
   have gT0:s.heap.get? T=some { cls:=.type "tuple",data:=.seq #[a,b] }:=gT
   have hTz:T≠n+4:=fun e=>by
     rw[e] at gT0
     have g:=congrArg (fun o=>o.map Obj.cls) ((show s.heap.get? (n+4)=some _ from g1).symm.trans gT0)
     simp at g
   have hT1:T≠n:=fun e=>by
     obtain⟨o,e1,e2,_⟩:=t1
     rw[e] at gT0
     have g:=e1.symm.trans gT0
     cases g
     simp at e2
   have hT2:T≠n+1:=fun e=>by
     obtain⟨o,e1,e2,_⟩:=t2
     rw[e] at gT0
     have g:=e1.symm.trans gT0
     cases g
     simp at e2
   refine a3f D hTz g1 gT g2 t1 t2 (show s.heap.IsTuple l1 its1.toArray from L1) L2.isList (x:=u) (y:=v) (by simpa using hu) (by simpa using hv) fun h' a1 a3 a4 a5 hk=>?_
   refine hR u v _ ru rv a5 (I.turnedL (ch:=bg n) (t':=s.toks) (fun b o hb e=>?_) hf) (.zs (i+1) T true a b hT a1 (hk _ _ hTz hT1 hT2 gT) (hk _ _ D.TIz D.TIi1 D.TIi2 g2) a3 a4) rfl
   unfold bg at hb
   simp only[Aq,AE,or_false,not_or] at hb
   exact hk b o hb.1 hb.2.2.2.1 hb.2.2.2.2 e
theorem ZSt.done (hh:A.handled=none) (I:Inv X pins σ H s) (z:ZSt s.heap n l1 l2 p i) (hf:∀b∈bg n,FpOk X pins H b) (q1:SqT X.K H l1 xs) (q2:SqL X.K H l2 ys) (hx:xs.length<=i)
   {R:Option Value->Shared->Prop} (hR:∀s1,Inv X pins σ H s1->R none s1):wpAny (model X.prog X.w) A (pyNext (.ref (n+4))) R E s:=by
 obtain⟨its1,r1,L1,_⟩:=I.tuple q1
 have hlen:=r1.length
 have D:ZipApart (n+4) (n+2) (n+3) n (n+1) l1 l2:=gy (fun z=>nj I q1 (hf _ z)) (fun z=>a4n I q2 (hf _ z))
 have hn:its1.toArray[i]? = none:=by rw[BM,Bt (by omega)]
 have kp:∀{h':Heap},(∀c o,c≠n+4->c≠n->s.heap.get? c=some o->h'.get? c=some o)->Inv X pins σ H { s with heap:=h' }:=fun hk=>I.turnedL (ch:=bg n) (t':=s.toks) (fun b o hb e=>by
   unfold bg at hb
   simp only[Aq,AE,or_false,not_or] at hb
   exact hk b o hb.1 hb.2.2.2.1 e) hf
 cases z with
 | z0 a b g1 g2 g3 t1 t2=>exact vn hh D g1 g2 t1 (show s.heap.IsTuple l1 its1.toArray from L1) hn fun h' hk=>hR _ (kp hk)
 | zs i T f a b hT g1 gT g2 t1 t2=>exact a6a hh D g1 gT g2 t1 (show s.heap.IsTuple l1 its1.toArray from L1) hn fun h' hk=>hR _ (kp hk)
end
section
variable {X:Cx}{pins:List (Addr×Obj)}{σ:St}{H:Hp}{n l1 l2 p:Addr}{xs:List Str}{ys:List V}
theorem a05:∀{xs:List Str}{ys:List V},xs.length=ys.length->(xs.zip ys).map (·.1)=xs
 | [],_,_=>rfl
 | x::xs,[],h=>by cases h
 | x::xs,y::ys,h=>by rw[Ds,AC,a05 (by simpa using h)]
theorem a6x (hn:n+4<p) {b:Addr}(hb:b∈bg n):b≠p:=by
 unfold bg at hb
 simp only[Aq,AE,or_false] at hb
 rcases hb with rfl|rfl|rfl|rfl|rfl
 . exact Aw hn
 . exact Aw (AL (Ca (show 2<=4 by decide) n) hn)
 . exact Aw (AL (Ca (show 3<=4 by decide) n) hn)
 . exact Aw (AL (Bu _ 4) hn)
 . exact Aw (AL (Ca (show 1<=4 by decide) n) hn)
theorem a1j {A:Around}{R:Result->Shared->Prop}(hh:A.handled=none) (hp:H p=none) (q1:SqT X.K H l1 (xs.map V.str)) (q2:SqL X.K H l2 ys) (hxy:xs.length=ys.length) (hn:xs.Nodup) (hz:xs.length<=1000) (hnp:n+4<p) :
   ∀(k i:Nat) (s:Shared),xs.length - i=k->i<=xs.length->Inv X pins σ (Hd H p (xs.zip ys) i) s->ZSt s.heap n l1 l2 p i->(∀b∈bg n,FpOk X pins (Hd H p (xs.zip ys) i) b)->
     (∀s',Inv X pins σ (Hd H p (xs.zip ys) xs.length) s'->R (.ok (.ret .none)) s')->codeAny (model X.prog X.w) A (.builtin "dict.update.loop" ⟨[.ref p,.ref (n+4),.int i 0,.none],[]⟩) R s:=by
 have hSame:∀i,Same H (Hd H p (xs.zip ys) i):=fun i=>ag hp _
 have hkl:(xs.zip ys).length=xs.length:=by rw[Dr];omega
 intro k
 induction k with
 | zero =>
   intro i s hk hi I z hf q
   have e:i=xs.length:=by omega
   refine By Ka.entry_loop ?_
   rw[Bn Ka.plain_loop _]
   show wpAny _ A.in1 (pyNext (.ref (n+4)) >>= _) _ _ s
   refine Aa (ZSt.done (A:=A.in1) hh I z hf ((hSame i).seqT q1) (iz (hSame i) q2) (by rw[Ad];omega) fun s1 I'=>?_)
   refine Aa (Ae (Ae (q _ ?_)))
   rw[<- e];exact I'
 | succ k ih =>
   intro i s hk hi I z hf q
   have hlt:i<xs.length:=by omega
   obtain⟨x,hx⟩:∃x,xs[i]? = some x:=⟨_,Af hlt⟩
   obtain⟨y,hy⟩:∃y,ys[i]? = some y:=⟨_,Af (by omega)⟩
   have hkv:(xs.zip ys)[i]? = some (x,y):=by rw[Fw];exact⟨hx,hy⟩
   have hpp:(Hd H p (xs.zip ys) i) p=some (.dK (((xs.zip ys).take i).map kk)):=aa
   refine By Ka.entry_loop ?_
   rw[Bn Ka.plain_loop _]
   show wpAny _ A.in1 (pyNext (.ref (n+4)) >>= _) _ _ s
   obtain⟨_,hd0,_,_,dd0⟩:=nr I.hok hpp
   have hps:p<s.heap.objs.size:=let ⟨o,_,_,ho,_⟩:=dd0;Ap ho
   refine Aa (z.item I hf ((hSame i).seqT q1) (iz (hSame i) q2) (x:=.str x) (y:=y) (by rw[Ai,hx];rfl) hy hps fun u1 u2 s1 r1 r2 ho3 I' z' htk=>?_)
   dsimp only
   refine Aa (AS ?_)
   refine Aa (CV ?_)
   unfold Gg
   refine Aa (CG (T := "tuple") ⟨_,ho3,rfl⟩ ?_)
   rw[if_pos (by decide)]
   refine Aa (Bb ho3 rfl (Ae ?_))
   refine AS ?_
   obtain⟨z0,hd,vs,rel,dd⟩:=nr I'.hok hpp
   have hvz:vs.length<=sizeLine:=by rw[<- rel.length];exact z0
   refine Hv (s:=s1) (hsz:=hvz) (j9 (k:=Sum.inr x) r1) dd fun h2 dd2 hs2=>?_
   have hmu:Mut ((Hd H p (xs.zip ys) i) p):=by rw[hpp];exact True.intro
   have he:∃q,h2.get? p=some q:=let ⟨q,_,_,hq,_⟩:=dd2;⟨q,hq⟩
   have hpl:(putK (((xs.zip ys).take i).map kk) (Sum.inr x) y).length<=sizeLine:=by
     have:=i3 (((xs.zip ys).take i).map kk) (Sum.inr x) y
     rw[Ad,AG] at this
     exact Bw (dq (by omega))
   have I2:Inv X pins σ (Hd H p (xs.zip ys) (i+1)) { s1 with heap:=h2,toks:=s1.toks+1 }:=by
     have:=jt (t':=s1.toks+1) (ob:=.dK (putK (((xs.zip ys).take i).map kk) (Sum.inr x) y)) I' hmu hs2 he (lz hpl hd (rel.put (Sum.inr x) r2) dd2)
     rw[a3s (kv:=(x,y)) (by rw[a05 hxy];exact hn) hkv] at this
     have e:upd (Hd H p (xs.zip ys) i) p (.dK (((xs.zip ys).take (i+1)).map kk))=Hd H p (xs.zip ys) (i+1):=by
       funext b;unfold Hd
       by_cases c:b=p
       . rw[c,aa,aa]
       . rw[ae c,ae c,ae c]
     rw[e] at this;exact this
   refine Ae ⟨BJ Ka.plain_loop _,ih (i+1) _ (by omega) hlt I2 (z'.keep hnp fun c o nc e=>(hs2.2 c nc).trans e) (fun b hb=>?_) q⟩
   have f0:=hf b hb
   refine⟨?_,f0.2⟩
   have:=f0.1
   unfold Hd at this |-
   rw[ae (a6x hnp hb)] at this |-
   exact this
end
section
variable {X:Cx}
inductive rDictZ (K:Ab) (vs:List V) (H:Hp) (Q:VK):Prop
 | mk (l1 l2:Addr) (xs:List Str) (ys:List V) (h0:vs=[.ref l1,.ref l2]) (h1:SqT K H l1 (xs.map V.str)) (h2:SqL K H l2 ys) (hxy:xs.length=ys.length) (hn:xs.Nodup) (hz:xs.length<=1000) (q:∀p,H p=none->Q (.ref p) (upd H p (.dK ((xs.zip ys).map kk)))):rDictZ K vs H Q
noncomputable def a3c (K:Ab) (ta:TA):TE:=fun σ H Q=>ta σ H fun vs H1=>rDictZ K vs H1 Q
theorem a59 {a b:Expr}{ta:TA}{pd p pos pos':Pos}(hc:X.calm=true) (hgd:Gl X "dict") (hmd:X.mg "dict" = none) (hg:Gl X "zip") (hm:X.mg "zip" = none) (ha:PA X [a,b] ta) (hs:starEach [a,b] X.env=[(false,eval a X.env),(false,eval b X.env)]) (hs2:starEach [b] X.env=[(false,eval b X.env)])
   (hs3:starEach [.Call (.Name "zip" p) [a,b] [] pos] X.env=[(false,eval (.Call (.Name "zip" p) [a,b] [] pos) X.env)]) :
   PE X (.Call (.Name "dict" pd) [.Call (.Name "zip" p) [a,b] [] pos] [] pos') (a3c X.K ta):=by
 intro pins s σ H Q I h
 refine Call_ (fj I hgd hmd boot_dict (Bs ?_ (by rw[hs3];rfl) rfl))
 rw[hs3]
 show wpAny _ _ (spliced ((false,eval (.Call (.Name "zip" p) [a,b] [] pos) X.env)::[])) _ _ s
 refine Dn ?_
 refine Call_ (fj I hg hm boot_zip (Bs (thn (ha pos pins s σ H _ I h) fun us s1 ⟨vs,H1,I1,r1,q1⟩=>?_) (by rw[hs,hs2]) (by rw[hs2];rfl)))
 obtain⟨l1,l2,xs,ys,e,q1,q2,hxy,hn,hzl,q⟩:=q1
 subst e
 cases r1 with
 | cons r rr =>
   cases rr with
   | cons r' rr =>
     cases rr
     cases r
     cases r'
     obtain⟨its1,v1,e1,_⟩:=I1.tuple q1
     obtain⟨its2,v2,e2,_⟩:=I1.list q2
     have T1:s1.heap.IsTuple l1 its1.toArray:=e1
     have T2:s1.heap.IsList l2 its2.toArray:=e2.isList
     refine callType_new F.called_zip (by decide) (IA _ _) (IP _ _) (fun obj=>Hn obj _ _) IQ (a2q l1 l2 its1.toArray its2.toArray) ⟨T1,T2,?_⟩
     have z1:∀(m:Heap) (o:Obj),(m.push o).objs.size=m.objs.size+1:=fun m o=>Bh ..
     have hk:∀b o,s1.heap.get? b=some o->∀o1 o2 o3 o4 o5,(((((s1.heap.push o1).push o2).push o3).push o4).push o5).get? b=some o:=fun b o e o1 o2 o3 o4 o5=>Ac _ (Ac _ (Ac _ (Ac _ (Ac _ e))))
     have at0:∀o1 o2 o3 o4 o5:Obj,o1.isFreed=false->(((((s1.heap.push o1).push o2).push o3).push o4).push o5).get? s1.heap.objs.size=some o1:=fun o1 o2 o3 o4 o5 f=>Ac _ (Ac _ (Ac _ (Ac _ (Ak _ f))))
     have at1:∀o1 o2 o3 o4 o5:Obj,o2.isFreed=false->(((((s1.heap.push o1).push o2).push o3).push o4).push o5).get? (s1.heap.objs.size+1)=some o2:=fun o1 o2 o3 o4 o5 f=>by rw[<- z1 s1.heap o1];exact Ac _ (Ac _ (Ac _ (Ak _ f)))
     have at2:∀o1 o2 o3 o4 o5:Obj,o3.isFreed=false->(((((s1.heap.push o1).push o2).push o3).push o4).push o5).get? (s1.heap.objs.size+2)=some o3:=fun o1 o2 o3 o4 o5 f=>by
       have e:s1.heap.objs.size+2=((s1.heap.push o1).push o2).objs.size:=by rw[z1,z1]
       rw[e];exact Ac _ (Ac _ (Ak _ f))
     have at3:∀o1 o2 o3 o4 o5:Obj,o4.isFreed=false->(((((s1.heap.push o1).push o2).push o3).push o4).push o5).get? (s1.heap.objs.size+3)=some o4:=fun o1 o2 o3 o4 o5 f=>by
       have e:s1.heap.objs.size+3=(((s1.heap.push o1).push o2).push o3).objs.size:=by rw[z1,z1,z1]
       rw[e];exact Ac _ (Ak _ f)
     have at4:∀o1 o2 o3 o4 o5:Obj,o5.isFreed=false->(((((s1.heap.push o1).push o2).push o3).push o4).push o5).get? (s1.heap.objs.size+4)=some o5:=fun o1 o2 o3 o4 o5 f=>by
       have e:s1.heap.objs.size+4=((((s1.heap.push o1).push o2).push o3).push o4).objs.size:=by rw[z1,z1,z1,z1]
       rw[e];exact Ak _ f
     have g1:=at4 { cls:=.type "tuple_iterator",data:=.fields #[.ref l1,.int 0 0] } { cls:=.type "list_iterator",data:=.fields #[.ref l2,.int 0 0] } { cls:=.type "tuple",data:=.seq #[.ref s1.heap.objs.size,.ref (s1.heap.objs.size+1)] } { cls:=.type "tuple",data:=.seq #[.none,.none] } { cls:=.type "zip",data:=.fields #[.none,.bool false,.bool false,.ref (s1.heap.objs.size+2),.ref (s1.heap.objs.size+3)] } rfl
     have g2:=at2 { cls:=.type "tuple_iterator",data:=.fields #[.ref l1,.int 0 0] } { cls:=.type "list_iterator",data:=.fields #[.ref l2,.int 0 0] } { cls:=.type "tuple",data:=.seq #[.ref s1.heap.objs.size,.ref (s1.heap.objs.size+1)] } { cls:=.type "tuple",data:=.seq #[.none,.none] } { cls:=.type "zip",data:=.fields #[.none,.bool false,.bool false,.ref (s1.heap.objs.size+2),.ref (s1.heap.objs.size+3)] } rfl
     have g3:=at3 { cls:=.type "tuple_iterator",data:=.fields #[.ref l1,.int 0 0] } { cls:=.type "list_iterator",data:=.fields #[.ref l2,.int 0 0] } { cls:=.type "tuple",data:=.seq #[.ref s1.heap.objs.size,.ref (s1.heap.objs.size+1)] } { cls:=.type "tuple",data:=.seq #[.none,.none] } { cls:=.type "zip",data:=.fields #[.none,.bool false,.bool false,.ref (s1.heap.objs.size+2),.ref (s1.heap.objs.size+3)] } rfl
     have g4:=at0 { cls:=.type "tuple_iterator",data:=.fields #[.ref l1,.int 0 0] } { cls:=.type "list_iterator",data:=.fields #[.ref l2,.int 0 0] } { cls:=.type "tuple",data:=.seq #[.ref s1.heap.objs.size,.ref (s1.heap.objs.size+1)] } { cls:=.type "tuple",data:=.seq #[.none,.none] } { cls:=.type "zip",data:=.fields #[.none,.bool false,.bool false,.ref (s1.heap.objs.size+2),.ref (s1.heap.objs.size+3)] } rfl
     have g5:=at1 { cls:=.type "tuple_iterator",data:=.fields #[.ref l1,.int 0 0] } { cls:=.type "list_iterator",data:=.fields #[.ref l2,.int 0 0] } { cls:=.type "tuple",data:=.seq #[.ref s1.heap.objs.size,.ref (s1.heap.objs.size+1)] } { cls:=.type "tuple",data:=.seq #[.none,.none] } { cls:=.type "zip",data:=.fields #[.none,.bool false,.bool false,.ref (s1.heap.objs.size+2),.ref (s1.heap.objs.size+3)] } rfl
     have kp:=fun b o e=>hk b o e { cls:=.type "tuple_iterator",data:=.fields #[.ref l1,.int 0 0] } { cls:=.type "list_iterator",data:=.fields #[.ref l2,.int 0 0] } { cls:=.type "tuple",data:=.seq #[.ref s1.heap.objs.size,.ref (s1.heap.objs.size+1)] } { cls:=.type "tuple",data:=.seq #[.none,.none] } { cls:=.type "zip",data:=.fields #[.none,.bool false,.bool false,.ref (s1.heap.objs.size+2),.ref (s1.heap.objs.size+3)] }
     refine⟨⟨_,g1,rfl⟩,?_⟩
     generalize ((((s1.heap.push { cls:=.type "tuple_iterator",data:=.fields #[.ref l1,.int 0 0] }).push { cls:=.type "list_iterator",data:=.fields #[.ref l2,.int 0 0] }).push { cls:=.type "tuple",data:=.seq #[.ref s1.heap.objs.size,.ref (s1.heap.objs.size+1)] }).push { cls:=.type "tuple",data:=.seq #[.none,.none] }).push { cls:=.type "zip",data:=.fields #[.none,.bool false,.bool false,.ref (s1.heap.objs.size+2),.ref (s1.heap.objs.size+3)] }=hz at g1 g2 g3 g4 g5 kp |-
     refine Ei ?_
     have Iz:Inv X pins σ H1 { s1 with heap:=hz }:=I1.kept (t':=s1.toks) fun b o e=>kp b o e
     have hfz:∀b∈bg s1.heap.objs.size,s1.heap.objs.size<=b:=fun b hb=>by
       unfold bg at hb
       simp only[Aq,AE,or_false] at hb
       rcases hb with rfl|rfl|rfl|rfl|rfl
       . exact Bu _ 4
       . exact Bu _ 2
       . exact Bu _ 3
       . exact Aj _
       . exact Bu _ 1
     have hf0:∀b∈bg s1.heap.objs.size,FpOk X pins H1 b:=fun b hb=>I1.fpOk (H':=H1) (hfz b hb) (I1.hok.fresh (hfz b hb))
     have hlt:s1.heap.objs.size+4<hz.objs.size:=Ap g1
     have Z0:∀p,ZSt hz s1.heap.objs.size l1 l2 p 0:=fun p=>.z0 _ _ g1 g2 g3 ⟨_,g4,rfl,rfl⟩ ⟨_,g5,rfl,rfl⟩
     generalize s1.heap.objs.size=n at g1 hf0 hlt Z0 |-
     refine callType_codes (Q₁:=fun obj s₁=>obj=.ref hz.objs.size/\s₁={ s1 with heap:=hz.push { cls:=.type "dict",data:=.dict #[] } }) Iv (Hm _) Ij (Iw _ ⟨rfl,rfl⟩) ?_
     rintro obj s₁ ⟨rfl,rfl⟩
     have fr:H1 hz.objs.size=none:=Iz.hok.fresh (Aj _)
     have J1:Inv X pins σ (upd H1 hz.objs.size (.dK [])) { s1 with heap:=hz.push { cls:=.type "dict",data:=.dict #[] } }:=Iz.laid (t':=s1.toks) (fun b o e=>Ac _ e) (Aj _) (oq _ Iz.big)
     have hnew:(hz.push { cls:=.type "dict",data:=.dict #[] }).get? hz.objs.size=some { cls:=.type "dict",data:=.dict #[] }:=Ak _ rfl
     have g1':=Ac { cls:=.type "dict",data:=.dict #[] } g1
     refine⟨⟨_,hnew,rfl⟩,HL _ _,?_⟩
     unfold Builtin.«dict.__init__»
     refine Aa ?_
     unfold FI
     refine Aa (Ex ⟨_,hnew,rfl⟩ ?_)
     show wpAny _ _ (pure (hz.objs.size,[Value.ref (n+4)])) _ _ _
     refine Ae ?_
     show wpAny _ _ (Dk "dict.__init__" hz.objs.size (.ref (n+4)) [] .none) _ _ _
     unfold Dk
     refine Aa (CG (T := "zip") ⟨_,g1',rfl⟩ ?_)
     rw[if_pos (by decide)]
     refine Aa (Kz.attr (A:=X.A.in1.in1) (show X.A.in1.in1.handled=none from J1.ok.hd hc) g1' fun h2 t2 k2 z2=>?_)
     rw[if_pos (show (none:Option Value).isNone=true from rfl)]
     refine Aa (Cn ?_)
     have Z2:ZSt h2 n l1 l2 hz.objs.size 0:=(Z0 hz.objs.size).keep hlt fun c o _ e=>k2 _ _ (Ac _ e)
     have J2:Inv X pins σ (upd H1 hz.objs.size (.dK [])) { s1 with heap:=h2,toks:=t2 }:=J1.kept (t':=t2) fun b o e=>k2 b o e
     have g1'':=k2 _ _ g1'
     refine Aa (FK (s:={ s1 with heap:=h2,toks:=t2 }) g1'' ?_)
     refine Ae ⟨BJ Ka.plain_loop _,a1j (n:=n) (show X.A.in1.handled=none from J1.ok.hd hc) fr q1 q2 hxy hn hzl hlt xs.length 0 _ rfl (A8 _) J2 Z2 (fun b hb=>?_) fun s' I'=>?_⟩
     . have f0:=hf0 b hb
       refine⟨?_,f0.2⟩
       show (upd H1 hz.objs.size (.dK [])) b=none
       rw[ae (a6x hlt hb)];exact f0.1
     . refine⟨rfl,.ref hz.objs.size,_,I',rfl,?_⟩
       have:=q hz.objs.size fr
       unfold Hd
       rw[Bm (by rw[Dr];omega)]
       exact this
theorem a5h {a b:Expr}{ta:TA}{pd p pos pos':Pos}{K:Ab}(hK:X.K=K) (hc:X.calm=true) (hgd:Gl X "dict") (hmd:X.mg "dict" = none) (hg:Gl X "zip") (hm:X.mg "zip" = none) (ha:QA X [a,b] ta) (hs:starEach [a,b] X.env=[(false,eval a X.env),(false,eval b X.env)]:=by rfl) (hs2:starEach [b] X.env=[(false,eval b X.env)]:=by rfl)
   (hs3:starEach [.Call (.Name "zip" p) [a,b] [] pos] X.env=[(false,eval (.Call (.Name "zip" p) [a,b] [] pos) X.env)]:=by rfl) :
   QE X (.Call (.Name "dict" pd) [.Call (.Name "zip" p) [a,b] [] pos] [] pos') (a3c K ta):=by subst hK;exact⟨a59 hc hgd hmd hg hm ha.run hs hs2 hs3⟩
end
end L2
namespace K52
open PySem PySem.Spec L2 Mir
variable {P:Program}{w:World}{K:Ab}{mg:Str->Option Value}{base:Heap}{f g gS gN gA gW gI gL gF gO gT gB C fI CM CF fJ gD gR gU gM gH gE gC gK gX gP:Addr}{fd gd dS dN dA dW dI dL dF dO dT dB dD dR dU dM dH dE dC dK dX dP:FuncData}
noncomputable abbrev su:Stmt:=cw (top 30) 8
noncomputable def nilF (f:Str->Int):Str->Int:=upF f "nil" 0
theorem a3w {zs:List Str}{F:Str->Int}{y:Str}(h:y∈zs++[("nil" : Str)]):numV (vK zs F) y=some (.int (nilF F y)):=by
 unfold numV nilF upF
 by_cases e:y = "nil"
 . rw[if_pos e,if_pos e]
 . rw[if_neg e,if_neg e]
   exact ja ((Al.mp h).elim id fun z=>absurd (As.mp z) e)
noncomputable def cx (ps ws:List Str) (F:Str->Int):Str->Int:=fun y=>((ps.zip ws).lookup y).elim 0 (nilF F)
theorem yw {F:Str->Int}{y:Str}:∀{ps ws:List Str},(valV ((ps.zip (ws.map fun w=>V.int (nilF F w))).map kk) (Sum.inr y)).getD (.int 0)=.int (cx ps ws F y)
 | [],_=>rfl
 | _::_,[]=>rfl
 | p::ps,w::ws=>by
   have ih:=yw (F:=F) (y:=y) (ps:=ps) (ws:=ws)
   unfold cx at ih |-
   rw[AC,Ds,AC,Ds,CA]
   by_cases e:y=p
   . subst e
     rw[show (y == y)=true from beq_self_eq_true y]
     show (valV ((Sum.inr y,V.int (nilF F w))::_) (Sum.inr y)).getD (.int 0)=_
     rw[gp rfl];rfl
   . rw[show (y == p)=false from beq_eq_false_iff_ne.mpr e]
     show (valV ((Sum.inr p,V.int (nilF F w))::_) (Sum.inr y)).getD (.int 0)=_
     rw[iu (fun z=>e (Dt z).symm)];exact ih
theorem a2c {F:Str->Int}{ps ws zs:List Str}:(ee ((ps.zip (ws.map fun w=>V.int (nilF F w))).map kk) zs).map kk=vK zs (cx ps ws F):=by
 unfold ee vK
 rw[BO]
 refine Di fun z _=>?_
 show (Sum.inr z,(valV _ (Sum.inr z)).getD (.int 0))=_
 rw[yw]
theorem StAt.move {K:Ab}{CF:Addr}{X H:Hp}{fl q1:Addr}{a:Fr}{r:List Fr}{fs':List (Str×V)}(h:StAt K CF X H fl (a::r)) (hq:SqT K H q1 [.int ((a.k+1:Nat):Int)]) (ff:FFs fs' a.pr q1 a.nd a.rc) (lf:fs'.length<=a.fs.length+1) (k19:a.k<=19):StAt K CF X (upd H a.p (.ins CF a.dx fs')) fl ({ a with k:=a.k+1,pt:=q1,fs:=fs' }::r):=by
 have hb:=h.fr a Ah
 have ne:∀{c:Addr} {o:HO},H c=some o->(∀C d f,o≠.ins C d f)->c≠a.p:=fun hc ho z=>by rw[z,hb.hp] at hc;cases hc;exact ho _ _ _ rfl
 refine⟨fun c o z=>by rw[ae (aj z hb.xp)];exact h.sX _ _ z,h.xf,by rw[ae (ne h.hfl fun _ _ _ z=>by cases z)];exact h.hfl,fun c hc=>?_,h.np,h.nn⟩
 rcases Aq.mp hc with rfl|hc
 . exact⟨hb.xp,hb.xn,aa,ff,by show fs'.length<=4+(a.k+1);have:=hb.lf;omega,by show a.k+1<=20;omega,jc hq fun o h1 h2 _ _=>by rw[ae (ne h1 h2)];exact h1,by show (upd H a.p _) a.nd=_;rw[ae (ne hb.hnd fun _ _ _ z=>by cases z)];exact hb.hnd,hb.hpr,hb.hbd,hb.hl⟩
 . have hc':=h.fr c (An _ hc)
   have np:c.p≠a.p:=fun z=>(AX.mp h.np).1 (by have y:=AH (f:=fun x:Fr=>x.p) hc;rw[z] at y;exact y)
   refine hc'.keep fun d o z w=>?_
   rw[ae];exact z
   rcases w with rfl|rfl|w
   . exact np
   . exact ne z fun C d f y=>by rw[y,hc'.hnd] at z;cases z
   . exact ne z w.1
theorem StAt.push {K:Ab}{CF:Addr}{X H:Hp}{fl:Addr}{n:Fr}{frs:List Fr}(h:StAt K CF X H fl frs) (hn:FrAt K CF X H n) (np:n.p∉frs.map (·.p)) (nn:n.nd∉frs.map (·.nd)):StAt K CF X (upd H fl (.lst ((frs.map fun a=>V.ref a.p).reverse++[V.ref n.p]))) fl (n::frs):=by
 have ne:∀{b:Addr} {o:HO},H b=some o->(∀l,o≠.lst l)->b≠fl:=fun hb ho z=>by rw[z,h.hfl] at hb;cases hb;exact ho _ rfl
 have go:∀c,FrAt K CF X H c->FrAt K CF X (upd H fl (.lst ((frs.map fun a=>V.ref a.p).reverse++[V.ref n.p]))) c:=fun c hc'=>by
   refine hc'.keep fun b o z w=>?_
   rw[ae];exact z
   rcases w with rfl|rfl|w
   . exact ne z fun l y=>by rw[y,hc'.hp] at z;cases z
   . exact ne z fun l y=>by rw[y,hc'.hnd] at z;cases z
   . exact ne z w.2.2
 refine⟨fun b o z=>by rw[ae (aj z h.xf)];exact h.sX _ _ z,h.xf,by rw[aa,AC,BZ],fun c hc=>?_,AX.mpr ⟨np,h.np⟩,AX.mpr ⟨nn,h.nn⟩⟩
 rcases Aq.mp hc with rfl|hc
 . exact go _ hn
 . exact go c (h.fr c hc)
theorem zv {K:Ab}{ds:List Deed}(G':Hp) (bd:Addr) (h:ListX K G' [30] bd ds):∃e,Stands G' bd [] 0 ([],0) e:=by
 obtain⟨ts,h1,h2,h3⟩:=h
 cases ts with
 | nil =>
   have:=LEnd.top (H:=G') (bd:=bd) [] h1
   exact⟨_,.fin bd [] this h1 rfl⟩
 | cons t ts=>exact⟨_,.own bd t (t::ts) rfl h1 rfl rfl rfl⟩
theorem zt {H:Hp}{bd:Addr}{ts:List Addr}{k:Nat}(h:H bd=some (.lst (ts.map V.ref))) (hk:k<=ts.length):∃e,Stands H bd [] k ([],k) e:=by
 rcases EC k ts.length with z|z
 . exact⟨_,.own bd _ ts rfl h (Af z) rfl rfl⟩
 . have z':ts.length=k:=by omega
   have:=LEnd.top (H:=H) (bd:=bd) ts h
   rw[z'] at this
   exact⟨_,.fin bd ts this h z'.symm⟩
theorem gf {α β:Type}{g:β->α}:∀{ys:List α}{ws:List β},Paired (fun y w=>y=g w) ys ws->ys=ws.map g
 | _,_,.nil=>rfl
 | _,_,.cons h r=>by rw[h,gf r];rfl
inductive spEnter (K:Ab) (CM CF:Addr) (vs:List V) (H:Hp) (Q:VK) (E:XK):Prop
 | mk (X:Hp) (m dm pd fl cd t v pr':Addr) (fm:List (Str×V)) (g:Int) (b:Bool) (a:Fr) (frs:List Fr) (x c:Str) (ws xs:List Str) (pkv:List (Key×V)) (pc:Prc) (h0:vs=[.ref m,.ref a.p,.ref t]) (hm:X m=some (.ins CM dm fm)) (hM:MFs fm pd fl cd g b) (hS:StAt K CF X H fl (a::frs))
     (ht:X t=some (.tup [.str "call",.str x,.str c,.ref v])) (hv:X v=some (.tup (ws.map V.str))) (hws:∀w∈ws,w∈a.ys++[("nil" : Str)]) (hpd:X pd=some (.dK pkv)) (hc:valV pkv (Sum.inr c)=some (.ref pr')) (hpc:PrcAt K X [30] pr' pc) (hok:PrcOk [30] xs pc) (hl:ws.length=pc.ps.length) (hn:pc.ps.Nodup) (hk:a.k<a.ts.length) (k19:a.k<=19) (hlen:frs.length<=20)
     (q:∀H' pt' fs' (n:Fr),StAt K CF X H' fl (n::{ a with k:=a.k+1,pt:=pt',fs:=fs' }::frs)->n.rc=x->n.res=pc.res->n.nm=pc.name->n.k=0->n.pr=pr'->Paired (DeedX K X (ListX K X [])) n.ts pc.body->n.ys.Nodup->(∀y,y∈n.ys↔b9 y=true/\y∈allW [30] pc)->n.F=cx pc.ps ws a.F->H n.p=none->H n.nd=none->KpS fl (a::frs) H H'->Q .non H'):spEnter K CM CF vs H Q E
theorem scEnter:FnScope ["self","frame","deed","called","numbers"] ["self","frame","deed"] (aq su):=⟨rfl,rfl,rfl,by decide +kernel,rfl,by decide +kernel,by decide +kernel⟩
theorem a6e {n:Nat}(hn:5<=n) (C:Con K mg w) (T:TxM K mg CM fI) (U:TxF K mg CF fJ) (F:Fun K "enter" "Machine.enter" su f fd) (GN:FnOk P w K mg base CX0 2 gN dN ["self","word"] (qf CF)) (cN:MCal K CF "number" gN dN ["self","word"])
   (GM:FnOk P w K mg base CX0 5 gM dM ["self","path"] (sk K CF)) (cM:MCal K CF "move" gM dM ["self","path"]) (GH:FnOk P w K mg base CX0 1 gH dH ["path"] (spBehind K)) (cH:Cal K mg "behind_deed" gH dH ["path"])
   (GI:FnOk P w K mg base CX0 n fJ dI ["self","procedure","path","numbers","receiver"] (spFInit K CF [30])) (bI:Binds K dI ["self","procedure","path","numbers","receiver"] []):FnOk P w K mg base CX0 (n+1+1) f fd ["self","frame","deed"] (spEnter K CM CF):=by
 refine F.okQ scEnter (fun vs H Q E h=>?_) (fun cdv A outer s0 H vs Q E hr h=>?_)
 . obtain⟨_,_,_,_,_,_,_,_,_,_,_,_,_,_,_,_,_,_,_,_,rfl,_⟩:=h;rfl
 obtain⟨X,m,dm,pd,fl,cd,t,v,pr',fm,g,b,a,frs,x,c,ws,xs,pkv,pc,rfl,hm,hM,hS,ht,hv,hws,hpd,hc,hpc,hok,hl,hn',hk,k19,hlen,q⟩:=h
 have nd:=scEnter.nd
 have hu1:=dw hr
 have hr1:=hr.mono (j:=1) (by omega)
 have hr2:=hr.mono (j:=2) (by omega)
 have hr5:=hr.mono (j:=5) (by omega)
 refine⟨_,af (aw (i:=3) nd rfl (Or.inl rfl) (em hu1 (b4 (K:=K) rfl (qv 0)) (ah (ixTK (K:=K) rfl) (qv 2) ac (fun _ _=>rfl)) (fun _ _=>rfl)))
   (af (xj ["word","frame"] [1] (i:=4) nd rfl (Or.inl rfl) (mn (K:=K) rfl (ah (ixTK (K:=K) rfl) (qv 2) ac (fun _ _=>rfl))) (fun _ _ _ _=>il) (fun _ _ _ _=>(cj (qv 1) U.cl cN.meth GN hr2 cN.bind .nil ap (ak (qv 0) ad))))
   (af (bx (cj (qv 1) U.cl cM.meth GM hr5 cM.bind .nil ap (b5 (ar GH hr1 rfl cH.name cH.keep cH.bind .nil ap (cg (b4 (K:=K) rfl (qv 1)) ad)) ad)))
   (ai (bx (du (K:=K) rfl AW BA BB d0 (b4 (K:=K) rfl (qv 0)) (b5 (rg U.mkC GI hr rfl U.mgC bI .nil ap (ak (qv 3) (gx (bj ad) (b5 (a5h (K:=K) rfl rfl rfl C.dict rfl C.zip (av (ah (ixTK (K:=K) rfl) (qv 3) ac (fun _ _=>rfl)) (ak (qv 4) ad))) (av (ah (ixTK (K:=K) rfl) (qv 2) ac (fun _ _=>rfl)) ad))))) ad)))))),?_⟩
 have Sa:=hS.fr a Ah
 obtain⟨ppt,t1,t2,f1,p1,f2,p2,bd',hpx⟩:=id hpc
 have gd:=DGet.k (k:=Sum.inr c) (hS.sX _ _ hpd)
 rw[hc] at gd
 refine ao (a:=tAsg _ _) fun D1 hD1 _ _=>?_
 refine⟨_,rfl,m,CM,dm,fm,_,rfl,hS.sX _ _ hm,T.cl,T.nP,hM.procedures,_,rfl,t,_,2,_,rfl,rfl,SqT.of (hS.sX _ _ ht),rfl,pd,_,rfl,gd,?_⟩
 refine hD1 [some (.ref m),some (.ref a.p),some (.ref t),some (.ref pr'),none] _ ?_
 clear hD1
 refine ao (a:=tAsg _ _) fun D2 hD2 _ _=>?_
 have hwl:ws.length<=1000:=by have:=hok.ps.1;omega
 refine⟨_,rfl,t,_,3,_,rfl,rfl,SqT.of (hS.sX _ _ ht),rfl,v,rfl,⟨_,SqT.of (hS.sX _ _ hv)⟩,?_⟩
 refine i8 (ws.map V.str) ws (fun D G y (w:Str)=>y=V.int (nilF a.F w)) id wt (SqT.of (hS.sX _ _ hv)) (by rw[Ad];exact hwl) (by rw[Ad]) (fun D G1 G2 y w z _=>z) (fun D hD j y w hy hw H2 e2 hD2 Q' q'=>?_) (fun D H2 ys hD e2 kD hpt=>?_)
 . have hy':y=.str w:=by rw[Ai,hw] at hy;exact (Ay hy).symm
   subst hy'
   have S2:=hS.same e2
   have Sa2:=S2.fr a Ah
   exact⟨_,rfl,a.p,a.dx,a.fs,rfl,Sa2.hp,Sa2.ff.meth _ (by simp),_,rfl,a.p,a.dx,a.pr,a.pt,a.nd,a.fs,a.rc,w,rfl,Sa2.hp,Sa2.ff,lq Sa2.hnd (a3w (hws w (Ar hw))) (q' _ _ (Same.refl _) rfl)⟩
 have hys:=gf (by rw[Dv] at hpt;exact hpt)
 subst hys
 have S2:=hS.same e2
 have Sa2:=S2.fr a Ah
 refine hD2 [some (.ref m),some (.ref a.p),some (.ref t),some (.ref pr'),some (.ref D)] _ ?_
 clear hD2
 refine ao (a:=ql _) fun D3 hD3 _ _=>?_
 obtain⟨u1,u3,u4,hpr⟩:=Sa2.hpr
 refine⟨_,rfl,a.p,a.dx,a.fs,rfl,Sa2.hp,Sa2.ff.meth _ (by simp),?_⟩
 refine⟨_,rfl,a.p,CF,a.dx,a.fs,_,rfl,Sa2.hp,U.cl,U.nA,Sa2.ff.path,a.pt,[],(a.k:Int),rfl,Sa2.hpt,A8 _,fun q0 H3 e3 hq0=>?_⟩
 have S3:=S2.same e3
 have Sa3:=S3.fr a Ah
 obtain⟨eo,hst⟩:=zt (H:=H3) (S3.sX _ _ Sa3.hbd) (show a.k+1<=a.ts.length by omega)
 refine⟨a.p,a.dx,a.pr,a.pt,a.nd,a.bd,q0,a.fs,a.rc,_,u1,_,u3,u4,[],a.k+1,([],a.k+1),eo,rfl,Sa3.hp,Sa3.ff,(by have:=Sa3.lf;omega),S3.sX _ _ hpr,hq0,hst,A8 _,fun q1 fs' H4 e4 hq1 hff hl4 _=>?_⟩
 have S4':=S3.same e4
 have S4:=S4'.move hq1 hff hl4 k19
 have k4D:(upd H4 a.p (.ins CF a.dx fs')) D=some (.lst (ws.map fun w=>V.int (nilF a.F w))):=by rw[ae (fun z=>by rw[z,Sa2.hp] at kD;cases kD)];exact (e3.trans e4) _ _ kD
 have kp4:KpS fl (a::frs) H (upd H4 a.p (.ins CF a.dx fs')):=fun b o z n1 n2 n3=>by rw[ae (fun y=>n2 (by rw[y];exact Ah))];exact ((e2.trans e3).trans e4) _ _ z
 have fr4:∀c,(upd H4 a.p (.ins CF a.dx fs')) c=none->H c=none:=fun c z=>by
   by_cases y:c=a.p
   . rw[y,aa] at z;cases z
   . rw[ae y] at z;exact ((e2.trans e3).trans e4).free z
 generalize upd H4 a.p (.ins CF a.dx fs')=H5 at S4 k4D kp4 fr4 |-
 refine hD3 [some (.ref m),some (.ref a.p),some (.ref t),some (.ref pr'),some (.ref D)] _ ?_
 clear hD3
 refine⟨_,rfl,m,CM,dm,fm,_,rfl,S4.sX _ _ hm,T.cl,T.nF,hM.frames,.inl ⟨rfl,_,SqL.of S4.hfl⟩,?_⟩
 refine⟨_,rfl,(show 1<=sizeLine by decide),fun z0 hz0=>?_⟩
 have s6:=ag hz0 (.tup [V.int 0])
 have k6:(upd H5 z0 (.tup [V.int 0])) z0=some (.tup [V.int 0]):=aa
 generalize upd H5 z0 (.tup [V.int 0])=H6 at s6 k6 |-
 refine⟨_,rfl,pr',_,1,_,rfl,rfl,SqT.of (s6 _ _ (S4.sX _ _ hpx.tup)),rfl,_,rfl,ppt,D,pc.ps,_,rfl,SqT.of (s6 _ _ (S4.sX _ _ hpx.pt)),SqL.of (s6 _ _ k4D),(by rw[Ad,hl]),hn',(by have:=hok.ps.1;omega),fun dz hdz=>?_⟩
 have s7:=ag hdz (.dK ((pc.ps.zip (ws.map fun w=>V.int (nilF a.F w))).map kk))
 have k7:(upd H6 dz (.dK ((pc.ps.zip (ws.map fun w=>V.int (nilF a.F w))).map kk))) dz=some (.dK ((pc.ps.zip (ws.map fun w=>V.int (nilF a.F w))).map kk)):=aa
 generalize upd H6 dz (.dK ((pc.ps.zip (ws.map fun w=>V.int (nilF a.F w))).map kk))=H7 at s7 k7 |-
 refine⟨_,rfl,t,_,1,_,rfl,rfl,SqT.of ((s6.trans s7) _ _ (S4.sX _ _ ht)),rfl,?_⟩
 intro p dx hpn hdxn hne
 have S7:=S4.same (s6.trans s7)
 have s8:Same H7 (upd (upd H7 dx (.own p)) p (.ins CF dx [])):=fun b o z=>by rw[ae (aj z hpn),ae (aj z hdxn)];exact z
 obtain⟨ts',hbd',hts',_⟩:=hpx.body
 obtain⟨eo',hst'⟩:=zv H7 bd' (hpx.body.same S7.sX)
 refine .mk H7 p dx pr' z0 dz bd' x pc xs _ _ _ _ _ _ [] 0 ([],0) eo' rfl s8 hpn aa (hpc.same S7.sX) hok (S7.sX _ _ hpx.tup) (SqT.of (s7 _ _ k6)) hst' (by decide) k7 fun q1' nd' fs8 zs H8 e8 hp8 ff8 lf8 hq8 hnd8 hn8 zn zsrt zm=>⟨rfl,?_⟩
 rw[a2c] at hn8
 have S8:=S7.same e8
 have np8:p∉({ a with k:=a.k+1,pt:=q1,fs:=fs' }::frs).map (·.p):=fun z=>by
   obtain⟨c',hc',e'⟩:=A9.mp z
   have:=(S7.fr c' hc').hp
   rw[e',hpn] at this;cases this
 have hnd7:H7 nd'=none:=s8.free hnd8
 have nn8:nd'∉({ a with k:=a.k+1,pt:=q1,fs:=fs' }::frs).map (·.nd):=fun z=>by
   obtain⟨c',hc',e'⟩:=A9.mp z
   have:=(S7.fr c' hc').hnd
   rw[e',hnd7] at this;cases this
 have zl:zs.length<=100:=A0 (Bg zn fun y hy=>hok.names y ((zm y).mp hy).2 ((zm y).mp hy).1) (A0 hok.len (by decide))
 have FN:FrAt K CF X H8 ⟨p,dx,pr',q1',nd',bd',fs8,pc.name,x,pc.res,0,ts',zs,cx pc.ps ws a.F⟩:=⟨S7.sX.free hpn,S7.sX.free hnd7,hp8,ff8,lf8,A8 _,hq8,hn8,⟨_,_,_,hpx.tup⟩,hbd',zl⟩
 refine⟨fl,_,_,rfl,rfl,S8.hfl,bu (by rw[Dj,Ad,AD];omega),?_⟩
 exact q _ q1 fs' _ (S8.push FN np8 nn8) rfl rfl rfl rfl rfl hts' zn zm rfl (fr4 _ ((s6.trans s7).free hpn)) (fr4 _ ((s6.trans s7).free hnd7)) fun b o z n1 n2 n3=>by rw[ae n1];exact ((s6.trans s7).trans e8) _ _ (kp4 b o z n1 n2 n3)
noncomputable def yq:Sp:=fun _ _ _ _=>False
theorem a90 {P:Program}{w:World}{K:Ab}{mg:Str->Option Value}{base:Heap}{CX:CXT}{k:Nat}{f:Addr}{fd:FuncData}{ps:List Str}:FnOk P w K mg base CX k f fd ps yq:=⟨fun _ _ _ _ h=>h.elim,fun _ _ _ _ _ _ _ _ _ _ _ _ _ h=>h.elim⟩
theorem a60:places.lookup ("set" : Str)=none/\places.lookup ("call" : Str)=none:=by
 unfold places
 simp only[CA]
 refine⟨?_,?_⟩
 . rw[show (("set" : Str) == ("read" : Str))=false by decide +kernel,show (("set" : Str) == ("write" : Str))=false by decide +kernel,show (("set" : Str) == ("free" : Str))=false by decide +kernel];rfl
 . rw[show (("call" : Str) == ("read" : Str))=false by decide +kernel,show (("call" : Str) == ("write" : Str))=false by decide +kernel,show (("call" : Str) == ("free" : Str))=false by decide +kernel];rfl
inductive DoD (K:Ab) (CF:Addr) (X H:Hp) (pd fl:Addr) (a:Fr) (frs:List Fr) (Q:VK):Str->List V->Prop
 | set (x e:Str) (hx:x∈a.ys) (he:e∈a.ys++[("nil" : Str)])
     (q:∀H' pt' fs',StAt K CF X H' fl (dj (frs.length+1) ({ a with k:=a.k+1,pt:=pt',fs:=fs',F:=upF a.F x (nilF a.F e) }::frs))->KpS fl (a::frs) H H'->Q .non H'):DoD K CF X H pd fl a frs Q "set" [.str x,.str e]
 | call (v pr':Addr) (x c:Str) (ws xs:List Str) (pkv:List (Key×V)) (pc:Prc) (hv:X v=some (.tup (ws.map V.str))) (hws:∀w∈ws,w∈a.ys++[("nil" : Str)]) (hpd:X pd=some (.dK pkv)) (hc:valV pkv (Sum.inr c)=some (.ref pr')) (hpc:PrcAt K X [30] pr' pc) (hok:PrcOk [30] xs pc) (hl:ws.length=pc.ps.length) (hn:pc.ps.Nodup) (hg:x = "" \/ ((b9 pc.res=true/\pc.res∈allW [30] pc)/\x∈a.ys))
     (q:∀H' pt' fs' (n:Fr),StAt K CF X H' fl (dj (frs.length+2) (n::{ a with k:=a.k+1,pt:=pt',fs:=fs' }::frs))->n.rc=x->n.res=pc.res->n.nm=pc.name->n.k=0->n.pr=pr'->Paired (DeedX K X (ListX K X [])) n.ts pc.body->n.ys.Nodup->(∀y,y∈n.ys↔b9 y=true/\y∈allW [30] pc)->n.F=cx pc.ps ws a.F->H n.p=none->H n.nd=none->KpS fl (a::frs) H H'->Q .non H'):DoD K CF X H pd fl a frs Q "call" [.str x,.str c,.ref v]
theorem DoD.word {K:Ab}{CF:Addr}{X H:Hp}{pd fl:Addr}{a:Fr}{frs:List Fr}{Q:VK}{wd:Str}{us:List V}(h:DoD K CF X H pd fl a frs Q wd us):places.lookup wd=none/\wd ≠ "if" /\ wd ≠ "while" := by
 obtain⟨p1,p2⟩:=a60
 cases h with
 | set=>exact⟨p1,by decide +kernel,by decide +kernel⟩
 | call=>exact⟨p2,by decide +kernel,by decide +kernel⟩
inductive spStep (K:Ab) (CM CF:Addr) (vs:List V) (H:Hp) (Q:VK) (E:XK):Prop
 | off (X:Hp) (m dm pd fl cd:Addr) (fm:List (Str×V)) (g:Int) (a:Fr) (frs:List Fr) (h0:vs=[.ref m]) (hm:X m=some (.ins CM dm fm)) (hM:MFs fm pd fl cd g false) (hS:StAt K CF X H fl (a::frs)) (hk:a.ts.length<=a.k) (q:∀H',Same H H'->Q .non H'):spStep K CM CF vs H Q E
 | on (X:Hp) (m dm pd fl cd t:Addr) (fm:List (Str×V)) (g:Int) (a:Fr) (frs:List Fr) (wd:Str) (us:List V) (h0:vs=[.ref m]) (hm:X m=some (.ins CM dm fm)) (hM:MFs fm pd fl cd g false) (hS:StAt K CF X H fl (a::frs)) (hch:Chain (a::frs)) (hlen:frs.length<=18) (hk:a.ts[a.k]? = some t) (k19:a.k<=19) (ht:X t=some (.tup (.str wd::us))) (hd:DoD K CF X H pd fl a frs Q wd us):spStep K CM CF vs H Q E
theorem StAt.ma {K:Ab}{CM CF:Addr}{X H:Hp}{m dm pd fl cd:Addr}{fm:List (Str×V)}{g:Int}{b:Bool}{a:Fr}{frs:List Fr}(hS:StAt K CF X H fl (a::frs)) (hm:X m=some (.ins CM dm fm)) (hM:MFs fm pd fl cd g b):MaAt CM CF H m pd fl cd a.p a.pr a.pt a.nd ((frs.map (·.p)).reverse) g b a.rc:=by
 have Sa:=hS.fr a Ah
 refine⟨⟨dm,fm,hS.sX _ _ hm,hM⟩,?_,⟨a.dx,a.fs,Sa.hp,Sa.ff,by have:=Sa.lf;have:=Sa.k5;omega⟩⟩
 rw[hS.hfl,Az,List.map_reverse,BO,AC,BZ];rfl
theorem scStep:FnScope ["self","frame","deed","name"] ["self"] (aq x0):=⟨rfl,rfl,rfl,by decide +kernel,rfl,by decide +kernel,by decide +kernel⟩
theorem a7i {n:Nat}(hn5:5<=n) (C:Con K mg w) (T:TxM K mg CM fI) (U:TxF K mg CF fJ) (F:Fun K "step" "Machine.step" x0 f fd) (GW:FnOk P w K mg base CX0 5 gW dW ["self"] (spWord K CM CF)) (cW:MCal K CM "word" gW dW ["self"]) (GD:FnOk P w K mg base CX0 4 gD dD ["self"] (o0 K CF)) (cD:MCal K CF "deed" gD dD ["self"])
   (GN:FnOk P w K mg base CX0 2 gN dN ["self","word"] (qf CF)) (cN:MCal K CF "number" gN dN ["self","word"]) (cB:MCal K CM "branch" gB dB ["self","frame","deed"]) (GE:FnOk P w K mg base CX0 n gE dE ["self","frame","deed"] (spEnter K CM CF)) (cE:MCal K CM "enter" gE dE ["self","frame","deed"]) (GC:FnOk P w K mg base CX0 3 gC dC ["self","frame","deed"] (spChange CM CF)) (cC:MCal K CM "change" gC dC ["self","frame","deed"])
   (GM:FnOk P w K mg base CX0 5 gM dM ["self","path"] (sk K CF)) (cM:MCal K CF "move" gM dM ["self","path"]) (GL:FnOk P w K mg base CX0 5 gL dL ["self"] (spLeave K CM CF)) (cL:MCal K CM "leave_ended" gL dL ["self"]) (GK:FnOk P w K mg base CX0 1 gK dK ["deed"] (spCellName K)) (cK:Cal K mg "cell_name" gK dK ["deed"]) (GH:FnOk P w K mg base CX0 1 gH dH ["path"] (spBehind K)) (cH:Cal K mg "behind_deed" gH dH ["path"]):FnOk P w K mg base CX0 (n+1) f fd ["self"] (spStep K CM CF):=by
 have GB:FnOk P w K mg base CX0 0 gB dB ["self","frame","deed"] yq:=a90
 refine F.okQ scStep (fun vs H Q E h=>?_) (fun cdv A outer s0 H vs Q E hr h=>?_)
 . rcases h with⟨_,_,_,_,_,_,_,_,_,_,rfl,_⟩|⟨_,_,_,_,_,_,_,_,_,_,_,_,_,rfl,_⟩<;>rfl
 have nd:=scStep.nd
 have hu1:=dw hr
 have hr0:=hr.mono (j:=0) (by omega)
 have hr1:=hr.mono (j:=1) (by omega)
 have hr2:=hr.mono (j:=2) (by omega)
 have hr3:=hr.mono (j:=3) (by omega)
 have hr4:=hr.mono (j:=4) (by omega)
 have hr5:=hr.mono (j:=5) (by omega)
 refine⟨_,af (bf (ay kx (cy (qv 0) T.cl cW.meth GW hr5 cW.bind .nil ap) b6 (az _)) (ai zo) bo)
   (af (aw (i:=1) nd rfl (Or.inl rfl) (ah (ixK (K:=K) rfl) (b4 (K:=K) rfl (qv 0)) (c5 bw ac) (fun _ _=>rfl)))
   (af (aw (i:=2) nd rfl (Or.inl rfl) (cy (qv 1) U.cl cD.meth GD hr4 cD.bind .nil ap))
   (af (aw (i:=3) nd rfl (Or.inl rfl) (ar GK hr1 rfl cK.name cK.keep cK.bind .nil ap (ak (qv 2) ad)))
   (af (bf (QW.qt (jf (ay a7w (qv 3) i6 (az _)) (ik (a2u hu1 (cj (qv 1) U.cl cN.meth GN hr2 cN.bind .nil ap (ak (qv 3) ad)) (b4 (K:=K) rfl (qv 0)))))) (af (dn (K:=K) rfl (qv 0) ib)
   (ai zo)) bo)
   (af (bf (ay (a95 (K:=K) rfl) (ah (ixTK (K:=K) rfl) (qv 2) ac (fun _ _=>rfl)) (fe (cf (cf ad))) (by with_unfolding_all rfl)) (ai (bx (cj (qv 0) T.cl cB.meth GB hr0 cB.bind .nil ap (ak (qv 1) (ak (qv 2) ad))))) (ai (bf (ay bp (ah (ixTK (K:=K) rfl) (qv 2) ac (fun _ _=>rfl)) b6 (az _)) (ai (bx (cj (qv 0) T.cl cE.meth GE hr cE.bind .nil ap (ak (qv 1) (ak (qv 2) ad))))) (af (bx (cj (qv 0) T.cl cC.meth GC hr3 cC.bind .nil ap (ak (qv 1) (ak (qv 2) ad))))
   (ai (bx (cj (qv 1) U.cl cM.meth GM hr5 cM.bind .nil ap (b5 (ar GH hr1 rfl cH.name cH.keep cH.bind .nil ap (cg (b4 (K:=K) rfl (qv 1)) ad)) ad))))))))
   (ai (bx (cy (qv 0) T.cl cL.meth GL hr5 cL.bind .nil ap)))))))),?_⟩
 rcases h with⟨X,m,dm,pd,fl,cd,fm,g,a,frs,rfl,hm,hM,hS,hk,q⟩|⟨X,m,dm,pd,fl,cd,t,fm,g,a,frs,wd,us,rfl,hm,hM,hS,hch,hlen,hk,k19,ht,hd⟩
 . have Sa:=hS.fr a Ah
   obtain⟨v1,v3,v4,hpr⟩:=Sa.hpr
   refine⟨_,rfl,m,dm,fm,rfl,hS.sX _ _ hm,hM.meth _ (by decide +kernel),.fine m pd fl cd a.p a.pr a.pt a.nd a.bd a.bd _ g a.rc _ v1 _ v3 v4 [] a.k a.ts rfl (hS.ma hm hM) (hS.sX _ _ hpr) Sa.hpt rfl (A8 _) (hS.sX _ _ Sa.hbd) fun H1 e1=>?_⟩
   rw[if_neg (by omega)]
   exact⟨rfl,_,rfl,iteB (fun _=>q H1 e1) (fun c=>absurd c (by decide +kernel))⟩
 have Sa:=hS.fr a Ah
 obtain⟨v1,v3,v4,hpr⟩:=Sa.hpr
 obtain⟨w0,w1,w2⟩:=hd.word
 have hkl:=(Ao.mp hk).1
 refine⟨_,rfl,m,dm,fm,rfl,hS.sX _ _ hm,hM.meth _ (by decide +kernel),.fine m pd fl cd a.p a.pr a.pt a.nd a.bd a.bd _ g a.rc _ v1 _ v3 v4 [] a.k a.ts rfl (hS.ma hm hM) (hS.sX _ _ hpr) Sa.hpt rfl (A8 _) (hS.sX _ _ Sa.hbd) fun H1 e1=>?_⟩
 rw[if_pos hkl]
 refine⟨rfl,_,rfl,iteB (fun c=>absurd c (by simp)) (fun _=>?_)⟩
 have S1:=hS.same e1
 have Sa1:=S1.fr a Ah
 have hfl1:H1 fl=some (.lst ((frs.map fun a=>V.ref a.p).reverse++[V.ref a.p])):=by rw[S1.hfl,AC,BZ]
 refine⟨_,rfl,m,CM,dm,fm,_,rfl,S1.sX _ _ hm,T.cl,T.nF,hM.frames,_,rfl,fl,_,_,_,rfl,rfl,SqL.of hfl1,bh,?_⟩
 refine⟨_,rfl,a.p,a.dx,a.fs,rfl,Sa1.hp,Sa1.ff.meth _ (by simp),a.p,a.dx,a.pr,a.pt,a.nd,a.bd,a.fs,a.rc,_,v1,_,v3,v4,rfl,Sa1.hp,Sa1.ff,S1.sX _ _ hpr,a.bd,a.pt,a.bd,[],a.k,a.ts,rfl,Sa1.hpt,rfl,A8 _,S1.sX _ _ Sa1.hbd,fun t' H2 ht' e2'=>?_,fun H2 hn' _=>by rw[hk] at hn';cases hn'⟩
 rw[hk] at ht';cases ht'
 have S2:=S1.same e2'
 have e02:=e1.trans e2'
 dsimp only[b7]
 refine ao (a:=tAsg _ _) fun D2 hD2 _ _=>?_
 refine⟨_,rfl,.none t wd us rfl (SqT.of (S2.sX _ _ ht)) w0 ?_⟩
 refine hD2 [some (.ref m),some (.ref a.p),some (.ref t),some .non] _ ?_
 clear hD2
 refine ao (a:=tIfS _ _ _) fun D3 hD3 _ _=>?_
 refine⟨_,rfl,rfl,_,rfl,iteB (fun c=>absurd c (by simp)) (fun _=>(if_neg Am).mpr (hD3 _ _ ?_))⟩
 clear hD3
 refine ao (a:=tIfS _ _ _) fun D4 hD4 _ _=>?_
 refine⟨_,rfl,t,_,0,_,rfl,rfl,SqT.of (S2.sX _ _ ht),at0,(show 2<=sizeLine by decide),fun p2 hp2=>?_⟩
 have s3:=ag hp2 (.tup [.str "if",.str "while"])
 have k3:(upd H2 p2 (.tup [.str "if",.str "while"])) p2=some (.tup (([("if" : Str),"while"]:List Str).map V.str)):=aa
 generalize upd H2 p2 (.tup [.str "if",.str "while"])=H3 at s3 k3 |-
 have S3:=S2.same s3
 have e03:=e02.trans s3
 have Sa3:=S3.fr a Ah
 refine⟨p2,_,rfl,.inr (SqT.of k3),rfl,i5 _,_,rfl,?_⟩
 rw[gq]
 refine iteB (fun c=>absurd (of_decide_eq_true c) (by simp[w1,w2])) (fun _=>?_)
 have leave:∀(H4:Hp) (b:Fr) (r:List Fr),StAt K CF X H4 fl (b::r)->Chain (b::r)->r.length<=20->(∀H',StAt K CF X H' fl (dj (b::r).length (b::r))->KpS fl (b::r) H4 H'->Q .non H')->D4.nx [some (.ref m),some (.ref a.p),some (.ref t),some .non] H4:=fun H4 b r S4 ch4 hr4' q4=>by
   refine hD4 _ _ ?_
   exact⟨_,rfl,m,dm,fm,rfl,S4.sX _ _ hm,hM.meth _ (by decide +kernel),.mk X m dm pd fl cd fm g false b r rfl hm hM S4 ch4 hr4' q4⟩
 cases hd with
 | set x e hx he q =>
   refine⟨_,rfl,t,_,0,_,rfl,rfl,SqT.of (S3.sX _ _ ht),at0,rfl,_,rfl,iteB (fun c=>absurd (V.str.inj (of_decide_eq_true c)) (by decide +kernel)) (fun _=>?_)⟩
   refine⟨_,rfl,m,dm,fm,rfl,S3.sX _ _ hm,hM.meth _ (by decide +kernel),_,rfl,_,rfl,.set m a.p a.dx a.pr a.pt a.nd t a.fs a.rc x e (vK a.ys a.F) (.int (nilF a.F e)) rfl Sa3.hp Sa3.ff (S3.sX _ _ ht) Sa3.hnd (by unfold vK;rw[Ad];exact Sa3.hl) (a3w he) ?_⟩
   rw[m6 hx]
   have S4:=S3.put (F':=upF a.F x (nilF a.F e))
   have kp4:KpS fl (a::frs) H (upd H3 a.nd (.dK (vK a.ys (upF a.F x (nilF a.F e))))):=fun b o z n1 n2 n3=>by rw[ae (fun y=>n3 (by rw[y];exact Ah))];exact e03 _ _ z
   generalize upd H3 a.nd (.dK (vK a.ys (upF a.F x (nilF a.F e))))=H4 at S4 kp4 |-
   have Sa4:=S4.fr _ Ah
   refine⟨_,rfl,a.p,a.dx,a.fs,rfl,Sa4.hp,Sa4.ff.meth _ (by simp),?_⟩
   refine⟨_,rfl,a.p,CF,a.dx,a.fs,_,rfl,Sa4.hp,U.cl,U.nA,Sa4.ff.path,a.pt,[],(a.k:Int),rfl,Sa4.hpt,A8 _,fun q0 H5 e5 hq0=>?_⟩
   have S5:=S4.same e5
   have Sa5:=S5.fr _ Ah
   obtain⟨eo,hst⟩:=zt (H:=H5) (S5.sX _ _ Sa5.hbd) (show a.k+1<=a.ts.length by omega)
   refine⟨a.p,a.dx,a.pr,a.pt,a.nd,a.bd,q0,a.fs,a.rc,_,v1,_,v3,v4,[],a.k+1,([],a.k+1),eo,rfl,Sa5.hp,Sa5.ff,(by have:=Sa.lf;omega),S5.sX _ _ hpr,hq0,hst,A8 _,fun q1 fs' H6 e6 hq1 hff hl6 _=>?_⟩
   have S6:=(S5.same e6).move hq1 hff hl6 k19
   refine leave _ _ frs S6 ?_ (by omega) fun H' S' kp'=>q H' q1 fs' S' fun b o z n1 n2 n3=>?_
   . cases frs with
     | nil=>trivial
     | cons b r=>exact hch
   . refine kp' b o ?_ n1 n2 n3
     rw[ae (fun y=>n2 (by rw[y];exact Ah))]
     exact (e5.trans e6) _ _ (kp4 b o z n1 n2 n3)
 | call v pr' x c ws xs pkv pc hv hws hpd hc hpc hok hl hn hg q =>
   refine⟨_,rfl,t,_,0,_,rfl,rfl,SqT.of (S3.sX _ _ ht),at0,rfl,_,rfl,iteB (fun _=>?_) (fun c=>absurd c (by simp))⟩
   refine⟨_,rfl,m,dm,fm,rfl,S3.sX _ _ hm,hM.meth _ (by decide +kernel),_,rfl,_,rfl,.mk X m dm pd fl cd t v pr' fm g false a frs x c ws xs pkv pc rfl hm hM S3 ht hv hws hpd hc hpc hok hl hn hkl k19 (by omega) fun H4 pt' fs' nn S4 h1 h2 h3 h4 h5 h6 h7 h8 h9 h10 h11 kp4=>?_⟩
   refine leave _ _ _ S4 ⟨?_,?_⟩ (by rw[AD];omega) fun H' S' kp'=>q H' pt' fs' nn S' h1 h2 h3 h4 h5 h6 h7 h8 h9 (e03.free h10) (e03.free h11) fun b o z n1 n2 n3=>?_
   . rcases hg with z|⟨z1,z2⟩
     . exact .inl (by rw[h1];exact z)
     . exact .inr ⟨by rw[h2];exact (h8 _).mpr z1,by rw[h1];exact z2⟩
   . cases frs with
     | nil=>trivial
     | cons b r=>exact hch
   . refine kp' b o (kp4 b o (e03 _ _ z) n1 n2 n3) n1 (fun y=>?_) (fun y=>?_)
     . rcases Aq.mp y with y|y
       . have zz:=e03 _ _ z
         rw[y,h10] at zz;cases zz
       . exact n2 y
     . rcases Aq.mp y with y|y
       . have zz:=e03 _ _ z
         rw[y,h11] at zz;cases zz
       . exact n3 y
noncomputable abbrev sj:Stmt:=cw (top 30) 2
noncomputable abbrev a0t:Stmt:=top 42
noncomputable abbrev a1c:Stmt:=top 38
inductive spWhere (K:Ab) (CM CF:Addr) (vs:List V) (H:Hp) (Q:VK) (E:XK):Prop
 | mk (X:Hp) (m dm pd fl cd:Addr) (fm:List (Str×V)) (g:Int) (a:Fr) (frs:List Fr) (h0:vs=[.ref m]) (hm:X m=some (.ins CM dm fm)) (hM:MFs fm pd fl cd g false) (hS:StAt K CF X H fl (a::frs)) (q0:a.ts.length<=a.k->∀H',Same H H'->Q .non H') (q1:a.k<a.ts.length->∀r H',Same H H'->H' r=some (.tup [.str a.nm,.ref a.pt])->Q (.ref r) H'):spWhere K CM CF vs H Q E
inductive spFull (vs:List V) (H:Hp) (Q:VK) (E:XK):Prop
 | mk (d:Addr) (zs:List Str) (f:Str->Int) (e:Str) (h0:vs=[.ref d,.str e]) (h1:H d=some (.dK (vK zs f))) (h2:e∈zs++[("nil" : Str)]) (q:Q (.int (nilF f e)) H):spFull vs H Q E
noncomputable def setR (d:Str×Str):List V:=[.str "set",.str d.1,.str d.2]
inductive spSets (vs:List V) (H:Hp) (Q:VK) (E:XK):Prop
 | mk (dl ow ev:Addr) (n:Int) (k:Nat) (own xs:List Str) (h0:vs=[.ref dl,.int (k:Int),.ref ow,.ref ev]) (h1:H dl=some (.lst [.int n])) (h2:H ow=some (.lst (own.map V.str))) (h3:H ev=some (.lst (xs.map V.str))) (n1:ow≠dl) (n2:ev≠dl) (hk:k<=3) (h4:0<own.length) (h5:own.length<=8) (h6:xs.length<=8)
     (q:∀l n' (ds:List (Str×Str)) (ts:List Addr) H',fu dl H H'->H' dl=some (.lst [.int n'])->H l=none->H' l=some (.lst (ts.map V.ref))->Paired (fun t d=>H' t=some (.tup (setR d))) ts ds->ds.length=k->(∀d∈ds,d.1∈own/\d.2∈xs++[("nil" : Str)])->Q (.ref l) H'):spSets vs H Q E
theorem scWhere:FnScope ["self"] ["self"] (aq sj):=⟨rfl,rfl,rfl,by decide +kernel,rfl,by decide +kernel,by decide +kernel⟩
theorem a5z (C:Con K mg w) (T:TxM K mg CM fI) (U:TxF K mg CF fJ) (F:Fun K "where" "Machine.where" sj f fd) (GW:FnOk P w K mg base CX0 5 gW dW ["self"] (spWord K CM CF)) (cW:MCal K CM "word" gW dW ["self"]):FnOk P w K mg base CX0 6 f fd ["self"] (spWhere K CM CF):=by
 refine F.okQ scWhere (fun vs H Q E h=>?_) (fun cdv A outer s0 H vs Q E hr h=>?_)
 . obtain⟨_,_,_,_,_,_,_,_,_,_,rfl,_⟩:=h;rfl
 have nd:=scWhere.nd
 refine⟨_,af (bf (ay bp (cy (qv 0) T.cl cW.meth GW hr cW.bind .nil ap) b6 (az _)) (ai (b0 i6)) bo)
   (ai (b0 (fe (av (ah (ixTK (K:=K) rfl) (b4 (K:=K) rfl (ah (ixK (K:=K) rfl) (b4 (K:=K) rfl (qv 0)) (c5 bw ac) (fun _ _=>rfl))) ac (fun _ _=>rfl)) (cg (b4 (K:=K) rfl (ah (ixK (K:=K) rfl) (b4 (K:=K) rfl (qv 0)) (c5 bw ac) (fun _ _=>rfl))) ad))))),?_⟩
 obtain⟨X,m,dm,pd,fl,cd,fm,g,a,frs,rfl,hm,hM,hS,q0,q1⟩:=h
 have Sa:=hS.fr a Ah
 obtain⟨v1,v3,v4,hpr⟩:=Sa.hpr
 refine⟨_,rfl,m,dm,fm,rfl,hS.sX _ _ hm,hM.meth _ (by decide +kernel),.fine m pd fl cd a.p a.pr a.pt a.nd a.bd a.bd _ g a.rc _ v1 _ v3 v4 [] a.k a.ts rfl (hS.ma hm hM) (hS.sX _ _ hpr) Sa.hpt rfl (A8 _) (hS.sX _ _ Sa.hbd) fun H1 e1=>?_⟩
 have S1:=hS.same e1
 have Sa1:=S1.fr a Ah
 have hfl1:H1 fl=some (.lst ((frs.map fun a=>V.ref a.p).reverse++[V.ref a.p])):=by rw[S1.hfl,AC,BZ]
 by_cases hk:a.k<a.ts.length
 . rw[if_pos hk]
   refine⟨rfl,_,rfl,iteB (fun c=>absurd c (by decide +kernel)) (fun _=>?_)⟩
   exact⟨_,rfl,m,CM,dm,fm,_,rfl,S1.sX _ _ hm,T.cl,T.nF,hM.frames,_,rfl,fl,_,_,_,rfl,rfl,SqL.of hfl1,bh,a.p,CF,a.dx,a.fs,_,rfl,Sa1.hp,U.cl,U.nP,Sa1.ff.procedure,a.pr,_,0,_,rfl,rfl,SqT.of (S1.sX _ _ hpr),at0,_,rfl,m,CM,dm,fm,_,rfl,S1.sX _ _ hm,T.cl,T.nF,hM.frames,_,rfl,fl,_,_,_,rfl,rfl,SqL.of hfl1,bh,a.p,CF,a.dx,a.fs,_,rfl,Sa1.hp,U.cl,U.nA,Sa1.ff.path,(show 2<=sizeLine by decide),fun r hr=>q1 hk r _ (e1.trans (ag hr _)) aa⟩
 . rw[if_neg hk]
   exact⟨rfl,_,rfl,iteB (fun _=>q0 (by omega) H1 e1) (fun c=>absurd c (by decide +kernel))⟩
theorem scFull:FnScope ["_law_values","_law_e"] ["_law_values","_law_e"] (aq a0t):=⟨rfl,rfl,rfl,by decide +kernel,rfl,by decide +kernel,by decide +kernel⟩
theorem a9c (C:Con K mg w) (F:Fun K "_law_full" "_law_full" a0t f fd):FnOk P w K mg base CX0 1 f fd ["_law_values","_law_e"] spFull:=by
 refine F.okQ scFull (fun vs H Q E h=>?_) (fun cdv A outer s0 H vs Q E hr h=>?_)
 . obtain⟨_,_,_,_,rfl,_⟩:=h;rfl
 obtain⟨d,zs,f',e,rfl,h1,h2,q⟩:=h
 have nd:=scFull.nd
 have hu1:=dw hr
 refine⟨_,af (bf (ay bp (qv 1) b6 (az _)) (ai (b0 ac)) bo)
   (ai (b0 (em hu1 (qv 0) (qv 1) (fun _ _=>rfl)))),?_⟩
 unfold nilF upF at q
 refine⟨_,rfl,rfl,_,rfl,iteB (fun c=>?_) (fun c=>?_)⟩
 . rw[if_pos (V.str.inj (of_decide_eq_true c))] at q;exact q
 . have ne:e ≠ "nil" := fun z=>by rw[z] at c;exact absurd c (by decide +kernel)
   rw[if_neg ne] at q
   have gd:=DGet.k (k:=Sum.inr e) h1
   rw[ja ((Al.mp h2).elim id fun z=>absurd (As.mp z) ne)] at gd
   exact⟨_,rfl,_,rfl,d,_,rfl,gd,q⟩
theorem scSets:FnScope ["_law_digits","_law_many","_law_own","_law_every","_law_deeds","_law_k","_law_e"] ["_law_digits","_law_many","_law_own","_law_every"] (aq a1c):=⟨rfl,rfl,rfl,by decide +kernel,rfl,by decide +kernel,by decide +kernel⟩
theorem a8t (C:Con K mg w) (F:Fun K "_law_sets" "_law_sets" a1c f fd) (GD:FnOk P w K mg base CX0 1 gD dD ["_law_digits","_law_many"] mq) (cD:Cal K mg "_law_digit" gD dD ["_law_digits","_law_many"]):FnOk P w K mg base CX0 2 f fd ["_law_digits","_law_many","_law_own","_law_every"] spSets:=by
 refine F.okQ scSets (fun vs H Q E h=>?_) (fun cdv A outer s0 H vs Q E hr h=>?_)
 . obtain⟨_,_,_,_,_,_,_,rfl,_⟩:=h;rfl
 obtain⟨dl,ow,ev,n,k,own,xs,rfl,h1,h2,h3,n1,n2,hk,h4,h5,h6,q⟩:=h
 have nd:=scSets.nd
 have hu1:=dw hr
 refine⟨_,af (aw (i:=4) nd rfl (Or.inl rfl) (br ad))
   (af (c8 AM rfl (fi rfl C.range (ak (qv 1) ad)) (b8 (i:=5) nd rfl (Or.inl rfl)) (af (aw (i:=6) nd rfl (Or.inl rfl) (ah (ixK (K:=K) rfl) (ax gi (qv 3) (br (cf ad))) (ar GD hr rfl cD.name cD.keep cD.bind .nil ap (ak (qv 0) (fc (ax bm (bc (lenK (K:=K) rfl) rfl C.len Bk (ak (qv 3) ad)) ac) ad))) (fun _ _=>rfl)))
   (ai (bx (du (K:=K) rfl AW BA BB d0 (qv 4) (gx (cf (av (ah (ixK (K:=K) rfl) (qv 2) (ar GD hr rfl cD.name cD.keep cD.bind .nil ap (ak (qv 0) (b5 (bc (lenK (K:=K) rfl) rfl C.len Bk (ak (qv 2) ad)) ad))) (fun _ _=>rfl)) (ak (qv 6) ad))) ad))))))
   (ai (b0 (qv 4)))),?_⟩
 refine ao (a:=tAsg _ _) fun D1 hD1 _ _=>?_
 refine⟨A8 _,fun l hl=>?_⟩
 have s1:=ag hl (.lst [])
 have k1:(upd H l (.lst [])) l=some (.lst []):=aa
 generalize upd H l (.lst [])=H1 at s1 k1 |-
 refine hD1 [some (.ref dl),some (.int (k:Int)),some (.ref ow),some (.ref ev),some (.ref l),none,none] _ ?_
 clear hD1
 refine ao (a:=tFor _ _ _) fun D2 hD2 _ _=>?_
 refine⟨_,rfl,_,rfl,(by omega),(by omega),?_⟩
 refine fh (fun i σ H'=>∃(n':Int) (ds:List (Str×Str)) (ts:List Addr) (z5 z6:Option V),σ=[some (.ref dl),some (.int (k:Int)),some (.ref ow),some (.ref ev),some (.ref l),z5,z6]/\fu dl H H'/\H' dl=some (.lst [.int n'])/\H' l=some (.lst (ts.map V.ref))/\Paired (fun t d=>H' t=some (.tup (setR d))) ts ds/\ds.length=i/\∀d∈ds,d.1∈own/\d.2∈xs++[("nil" : Str)]) ⟨n,[],[],none,none,rfl,fun b o z _=>s1 _ _ z,s1 _ _ h1,k1,.nil,rfl,fun d hd=>by cases hd⟩ ?_ ?_
 . rintro i σ H2 hi ⟨n',ds,ts,z5,z6,rfl,sx,kd,kl,prd,hdl,hin⟩
   have hi3:i<3:=by omega
   have ndl:l≠dl:=fun z=>by rw[z,h1] at hl;cases hl
   have kev:=sx _ _ h3 n2
   have kow:=sx _ _ h2 n1
   refine ao (a:=tAsg _ _) fun D3 hD3 _ _=>?_
   refine⟨_,rfl,(show 1<=sizeLine by decide),fun c hc=>?_⟩
   have s3:=ag hc (.lst [V.str "nil"])
   have k3:(upd H2 c (.lst [V.str "nil"])) c=some (.lst [V.str "nil"]):=aa
   generalize upd H2 c (.lst [V.str "nil"])=H3 at s3 k3 |-
   refine⟨ev,c,_,_,rfl,rfl,s3 _ _ kev,k3,bi (by rw[Ad];show _+1<=1000;omega),fun e he=>?_⟩
   have s4:=ag he (.lst (xs.map V.str++[V.str "nil"]))
   have k4:(upd H3 e (.lst (xs.map V.str++[V.str "nil"]))) e=some (.lst ((xs++[("nil" : Str)]).map V.str)):=by rw[aa,Az];rfl
   generalize upd H3 e (.lst (xs.map V.str++[V.str "nil"]))=H4 at s4 k4 |-
   have e24:=s3.trans s4
   have ned:e≠dl:=fun z=>by rw[z,(s3 _ _ kd)] at he;cases he
   have hxl:(xs++[("nil" : Str)]).length=xs.length+1:=by rw[Ag];rfl
   obtain⟨ve,hve,hvm⟩:=jr (xs:=(xs++[("nil" : Str)]).map V.str) (m:=(((xs.map V.str).length:Nat):Int)+1) (i:=n') (by rw[Ad,hxl,Ad];rfl) (by omega)
   obtain⟨we,hwe,rfl⟩:=A9.mp hvm
   refine⟨_,rfl,_,rfl,ev,_,rfl,.inl (SqL.of (e24 _ _ kev)),_,_,rfl,rfl,dl,n',_,rfl,e24 _ _ kd,(by omega),(by rw[Ad];refine HS (show ((xs.length:Nat):Int)+1<=9 by omega) (by decide)),?_⟩
   have u5:∀{b:Addr} {o:HO},b≠dl->H4 b=some o->(upd H4 dl (.lst [V.int (n' / ((((xs.map V.str).length:Nat):Int)+1))])) b=some o:=fun nb hb=>by rw[ae nb];exact hb
   have k5:(upd H4 dl (.lst [V.int (n' / ((((xs.map V.str).length:Nat):Int)+1))])) dl=some (.lst [V.int (n' / ((((xs.map V.str).length:Nat):Int)+1))]):=aa
   generalize n' / ((((xs.map V.str).length:Nat):Int)+1)=n2' at u5 k5 |-
   generalize upd H4 dl (.lst [V.int n2'])=H5 at u5 k5 |-
   refine⟨e,_,_,.str we,rfl,rfl,SqL.of (u5 ned k4),hve,?_⟩
   refine hD3 [some (.ref dl),some (.int (k:Int)),some (.ref ow),some (.ref ev),some (.ref l),some (.int (0+(i:Int))),some (.str we)] _ ?_
   clear hD3
   have kow5:=u5 n1 (e24 _ _ kow)
   have kl5:=u5 ndl (e24 _ _ kl)
   obtain⟨vx,hvx,hvxm⟩:=jr (xs:=own.map V.str) (m:=(((own.map V.str).length:Nat):Int)) (i:=n2') rfl (by rw[Ad];omega)
   obtain⟨wx,hwx,rfl⟩:=A9.mp hvxm
   refine⟨_,rfl,.inl ⟨rfl,_,SqL.of kl5⟩,_,rfl,_,rfl,_,rfl,ow,_,rfl,.inl (SqL.of kow5),dl,n2',_,rfl,k5,(by rw[Ad];omega),(by rw[Ad];refine HS (show ((own.length:Nat):Int)<=9 by omega) (by decide)),?_⟩
   have u6:∀{b:Addr} {o:HO},b≠dl->H5 b=some o->(upd H5 dl (.lst [V.int (n2' / (((own.map V.str).length:Nat):Int))])) b=some o:=fun nb hb=>by rw[ae nb];exact hb
   have k6:(upd H5 dl (.lst [V.int (n2' / (((own.map V.str).length:Nat):Int))])) dl=some (.lst [V.int (n2' / (((own.map V.str).length:Nat):Int))]):=aa
   generalize n2' / (((own.map V.str).length:Nat):Int)=n3' at u6 k6 |-
   generalize upd H5 dl (.lst [V.int n3'])=H6 at u6 k6 |-
   refine⟨ow,_,_,.str wx,rfl,rfl,SqL.of (u6 n1 kow5),hvx,_,rfl,(show 3<=sizeLine by decide),fun t ht=>?_⟩
   have s7:=ag ht (.tup [V.str "set",V.str wx,V.str we])
   have k7:(upd H6 t (.tup [V.str "set",V.str wx,V.str we])) t=some (.tup (setR (wx,we))):=aa
   generalize upd H6 t (.tup [V.str "set",V.str wx,V.str we])=H7 at s7 k7 |-
   have kl7:=s7 _ _ (u6 ndl kl5)
   have up:∀{b:Addr} {o:HO},b≠dl->H2 b=some o->H7 b=some o:=fun nb hb=>s7 _ _ (u6 nb (u5 nb (e24 _ _ hb)))
   have ntl:t≠l:=fun z=>by rw[z,kl7] at k7;cases k7
   have hlt:ts.length=i:=by rw[Ax prd,hdl]
   refine⟨l,_,_,rfl,rfl,kl7,bu (by rw[Ad];omega),n3',ds++[(wx,we)],ts++[t],_,_,rfl,fun b o hb nb=>?_,?_,?_,?_,?_,?_⟩
   . rw[ae (fun z=>by rw[z,hl] at hb;cases hb)];exact up nb (sx _ _ hb nb)
   . rw[ae (Br ndl)];exact s7 _ _ k6
   . rw[aa,Az];rfl
   . refine Paired.app (Paired.mapP prd fun t' d z=>?_) (.cons ?_ .nil)
     . rw[ae (fun y=>by rw[y,kl] at z;cases z)];exact up (fun y=>by rw[y,kd] at z;cases z) z
     . rw[ae ntl];exact k7
   . rw[Ag,hdl];rfl
   . intro d hd
     rcases Al.mp hd with z|z
     . exact hin d z
     . rw[As.mp z];exact⟨hwx,hwe⟩
 . rintro σ H2 ⟨n',ds,ts,z5,z6,rfl,sx,kd,kl,prd,hdl,hin⟩
   refine hD2 _ _ ?_
   exact⟨_,rfl,q l n' ds ts H2 sx kd hl kl prd (by rw[hdl];omega) hin⟩
noncomputable abbrev wo:Stmt:=top 39
theorem a5y {H1:Hp}{σ:St}{ix:List Nat}{te:TE}{Q:VK}{dl:Addr}{n1:Int}{N:Nat}(Pr:Str->Prop) (hN:N<=900) (h1:H1 dl=some (.lst [.int n1]))
   (he:∀(i:Nat) H2 n2,fu dl H1 H2->H2 dl=some (.lst [.int n2])->∀Q':VK,(∀w n3 H3,fu dl H2 H3->H3 dl=some (.lst [.int n3])->Pr w->Q' (.str w) H3)->te (some (.int (0+(i:Int)))::bq σ ix) H2 Q')
   (hQ:∀D H' n' ws,H1 D=none->fu dl H1 H'->H' dl=some (.lst [.int n'])->H' D=some (.lst ((ws:List Str).map V.str))->ws.length=N->(∀w∈ws,Pr w)->Q (.ref D) H'):ji (Itr 0 N) H1 σ ix tYes te Q:=by
 intro D hD
 have nD:D≠dl:=fun z=>by rw[z,h1] at hD;cases hD
 refine⟨fun i m H=>i<=N/\m=N - i/\∃(n:Int) (ws:List Str),fu dl H1 H/\H dl=some (.lst [.int n])/\H D=some (.lst (ws.map V.str))/\ws.length=i/\∀w∈ws,Pr w,⟨N,A8 _,rfl,n1,[],fun b o z _=>by rw[ae (aj z hD)];exact z,by rw[ae (Br nD)];exact h1,aa,rfl,fun w hw=>by cases hw⟩,?_⟩
 rintro i m H ⟨hi,rfl,n,ws,sx,hd,hDl,hlen,hPr⟩
 by_cases hlt:i<N
 . refine .inr ⟨hlt,fun x H' hy=>?_⟩
   obtain⟨rfl,rfl⟩:=hy
   refine he i H' n sx hd _ fun w n3 H3 sx3 hd3 hw=>?_
   refine⟨ws.map V.str,sx3 _ _ hDl nD,AL (by rw[Ad];omega:_<=1000) (by decide),N - (i+1),by omega,hlt,rfl,n3,ws++[w],fun b o z nb=>?_,?_,?_,?_,?_⟩
   . rw[ae (aj z hD)];exact sx3 _ _ (sx _ _ z nb) nb
   . rw[ae (Br nD)];exact hd3
   . rw[aa,Az];rfl
   . rw[Ag,hlen];rfl
   . intro y hy
     rcases Al.mp hy with z|z
     . exact hPr y z
     . rw[As.mp z];exact hw
 . have e:i=N:=by omega
   subst e
   exact .inl ⟨Aj _,hQ D H n ws hD sx hd hDl hlen hPr⟩
structure Hd where
 x:Str
 ps:List Str
 res:Str
 ev:List Str
structure HdOk (xs:List Str) (h:Hd):Prop where
 ln:h.ev.length=6
 nd:h.ev.Nodup
 mem:∀y,y∈h.ev↔y∈xs
 ps:∃j,j<=4/\h.ps=h.ev.take j
 res:h.res = "" \/ h.res∈xs
inductive HdAt (H:Hp) (t:Addr) (h:Hd):Prop
 | mk (pt el:Addr) (h1:H t=some (.tup [.str h.x,.ref pt,.str h.res,.ref el])) (h2:H pt=some (.tup (h.ps.map V.str))) (h3:H el=some (.lst (h.ev.map V.str)))
theorem HdAt.keep {H H':Hp}{t:Addr}{h:Hd}(a:HdAt H t h) (e:∀b o,H b=some o->H' b=some o):HdAt H' t h:=by
 obtain⟨pt,el,h1,h2,h3⟩:=a
 exact⟨pt,el,e _ _ h1,e _ _ h2,e _ _ h3⟩
inductive spHeads (K:Ab) (vs:List V) (H:Hp) (Q:VK) (E:XK):Prop
 | mk (a nl:Addr) (ns:List Int) (xs:List Str) (k:Nat) (h0:vs=[.ref a,.ref nl,.int (k:Int)]) (h1:SqL K H a (ns.map V.int)) (h2:H nl=some (.lst (xs.map V.str))) (h3:xs.length=6) (hn:xs.Nodup) (hk:k<=4)
     (q:∀l (ts:List Addr) (hs:List Hd) H',Same H H'->H l=none->H' l=some (.lst (ts.map V.ref))->Paired (HdAt H') ts hs->hs.length=k->(∀h∈hs,HdOk xs h)->hs.map (·.x)=xs.take k->Q (.ref l) H'):spHeads K vs H Q E
theorem scHeads:FnScope ["_law_script","_law_names_here","_law_many","_law_heads_here","_law_k","_law_cell","_law_turn","_law_every"] ["_law_script","_law_names_here","_law_many"] (aq wo):=⟨rfl,rfl,rfl,by decide +kernel,rfl,by decide +kernel,by decide +kernel⟩
theorem a5d (C:Con K mg w) (F:Fun K "_law_heads" "_law_heads" wo f fd) (GC:FnOk P w K mg base CX0 1 gC dC ["_law_script","_law_k"] (qy K)) (cC:Cal K mg "_law_cell_at" gC dC ["_law_script","_law_k"]):FnOk P w K mg base CX0 2 f fd ["_law_script","_law_names_here","_law_many"] (spHeads K):=by
 refine F.okQ scHeads (fun vs H Q E h=>?_) (fun cdv A outer s0 H vs Q E hr h=>?_)
 . obtain⟨_,_,_,_,_,rfl,_⟩:=h;rfl
 obtain⟨a,nl,ns,xs,k,rfl,h1,h2,h3,hn,hk,q⟩:=h
 have nd:=scHeads.nd
 have hu1:=dw hr
 refine⟨_,af (aw (i:=3) nd rfl (Or.inl rfl) (br ad))
   (af (c8 AM rfl (fi rfl C.range (ak (qv 2) ad)) (b8 (i:=4) nd rfl (Or.inl rfl)) (af (aw (i:=5) nd rfl (Or.inl rfl) (ar GC hr rfl cC.name cC.keep cC.bind .nil ap (ak (qv 0) (fc (ax bm ac (qv 4)) ad))))
   (af (aw (i:=6) nd rfl (Or.inl rfl) (ax cv (ax gu (qv 5) ac) ac))
   (af (aw (i:=7) nd rfl (Or.inl rfl) (ax gi (c4 (ku (K:=K) rfl) (qv 1) (cb (qv 6)) ca) (c4 (ku (K:=K) rfl) (qv 1) ca (cb (qv 6)))))
   (ai (bx (du (K:=K) rfl AW BA BB d0 (qv 3) (gx (av (ah (ixK (K:=K) rfl) (qv 1) (qv 4) (fun _ _=>rfl)) (b5 (be ia rfl C.tuple Dl (av (c4 (ku (K:=K) rfl) (qv 7) ca (cb (ax cv (qv 5) ac))) ad)) (av (ah (ixK (K:=K) rfl) (br (cf (av (ah (ixK (K:=K) rfl) (qv 7) ac (fun _ _=>rfl)) ad))) (ax cv (ax cv (ax gu (qv 5) ac) ac) ac) (fun _ _=>rfl)) (ak (qv 7) ad)))) ad))))))))
   (ai (b0 (qv 3)))),?_⟩
 refine ao (a:=tAsg _ _) fun D1 hD1 _ _=>?_
 refine⟨A8 _,fun l hl=>?_⟩
 have s1:=ag hl (.lst [])
 have k1:(upd H l (.lst [])) l=some (.lst []):=aa
 generalize upd H l (.lst [])=H1 at s1 k1 |-
 refine hD1 [some (.ref a),some (.ref nl),some (.int (k:Int)),some (.ref l),none,none,none,none] _ ?_
 clear hD1
 refine ao (a:=tFor _ _ _) fun D2 hD2 _ _=>?_
 refine⟨_,rfl,_,rfl,(by omega),(by omega),?_⟩
 refine fh (fun i σ H'=>∃(ts:List Addr) (hs:List Hd) (z4 z5 z6 z7:Option V),σ=[some (.ref a),some (.ref nl),some (.int (k:Int)),some (.ref l),z4,z5,z6,z7]/\Same H H'/\H' l=some (.lst (ts.map V.ref))/\Paired (HdAt (rm (fun c=>c=l) H')) ts hs/\hs.length=i/\(∀h∈hs,HdOk xs h)/\hs.map (·.x)=xs.take i) ⟨[],[],none,none,none,none,rfl,s1,k1,.nil,rfl,(fun d hd=>by cases hd),rfl⟩ ?_ ?_
 . rintro i σ H2 hi ⟨ts,hs,z4,z5,z6,z7,rfl,sx,kl,prd,hln,hok,hxk⟩
   have hik:i<k:=by omega
   have nl2:=sx _ _ h2
   refine ao (a:=tAsg _ _) fun D3 hD3 _ _=>?_
   refine⟨_,rfl,_,rfl,_,_,rfl,rfl,a,ns,_,rfl,sx.seq h1,?_⟩
   generalize i4 ns _=c
   refine hD3 [some (.ref a),some (.ref nl),some (.int (k:Int)),some (.ref l),some (.int (0+(i:Int))),some (.int c),z6,z7] _ ?_
   clear hD3
   have modN:∀(x:Int) (m:Int),0<m->∃j:Nat,x % m=(j:Int)/\(j:Int)<m:=fun x m hm=>⟨(x % m).toNat,by have:=Bz x (DE hm);omega,by have:=Bz x (DE hm);have:=BE x hm;omega⟩
   obtain⟨j,hj,hj6⟩:=modN (c / 15) 6 (by decide)
   refine ao (a:=tAsg _ _) fun D4 hD4 _ _=>?_
   refine⟨_,rfl,_,_,rfl,rfl,(show CDiv _ 15 from⟨by decide,by decide⟩),_,_,rfl,rfl,(show (0:Int)<6 by decide),?_⟩
   dsimp only[b7]
   rw[hj]
   refine hD4 [some (.ref a),some (.ref nl),some (.int (k:Int)),some (.ref l),some (.int (0+(i:Int))),some (.int c),some (.int (j:Int)),z7] _ ?_
   clear hD4
   refine ao (a:=tAsg _ _) fun D5 hD5 _ _=>?_
   refine⟨_,rfl,_,rfl,_,rfl,nl,_,rfl,SqL.of nl2,fun l1 hl1=>?_⟩
   rw[ij]
   have s3:=ag hl1 (.lst ((xs.drop j).map V.str))
   have k3:(upd H2 l1 (.lst ((xs.drop j).map V.str))) l1=some (.lst ((xs.drop j).map V.str)):=aa
   generalize upd H2 l1 (.lst ((xs.drop j).map V.str))=H3 at s3 k3 |-
   refine⟨_,rfl,_,rfl,_,rfl,nl,_,rfl,SqL.of (s3 _ _ nl2),fun l2 hl2=>?_⟩
   rw[ux _ _ (by omega)]
   have s4:=ag hl2 (.lst ((xs.take j).map V.str))
   have k4:(upd H3 l2 (.lst ((xs.take j).map V.str))) l2=some (.lst ((xs.take j).map V.str)):=aa
   generalize upd H3 l2 (.lst ((xs.take j).map V.str))=H4 at s4 k4 |-
   refine⟨l1,l2,_,_,rfl,rfl,s4 _ _ k3,k4,bi (by rw[Ad,Ad,Be,AG];omega),fun el hel=>?_⟩
   have s5:=ag hel (.lst ((xs.drop j).map V.str++(xs.take j).map V.str))
   have k5:(upd H4 el (.lst ((xs.drop j).map V.str++(xs.take j).map V.str))) el=some (.lst ((xs.drop j++xs.take j).map V.str)):=by rw[aa,Az]
   generalize upd H4 el (.lst ((xs.drop j).map V.str++(xs.take j).map V.str))=H5 at s5 k5 |-
   have eln:(xs.drop j++xs.take j).length=6:=by rw[Ag,Be,AG];omega
   have end':(xs.drop j++xs.take j).Nodup:=(He.trans (by rw[Ey])).nodup_iff.mpr hn
   have emem:∀y,y∈xs.drop j++xs.take j↔y∈xs:=fun y=>(He.trans (by rw[Ey]):(xs.drop j++xs.take j).Perm xs).mem_iff
   generalize xs.drop j++xs.take j=ev at k5 eln end' emem
   refine hD5 [some (.ref a),some (.ref nl),some (.int (k:Int)),some (.ref l),some (.int (0+(i:Int))),some (.int c),some (.int (j:Int)),some (.ref el)] _ ?_
   clear hD5
   have e25:=(s3.trans s4).trans s5
   obtain⟨x,hx⟩:∃x,xs[i]? = some x:=⟨_,Af (by omega)⟩
   have hat:atI (xs.map V.str) (0+(i:Int))=some (.str x):=by rw[Jc];exact bn (by rw[Ai,hx];rfl)
   refine⟨_,rfl,.inl ⟨rfl,_,SqL.of (e25 _ _ kl)⟩,?_⟩
   refine⟨_,rfl,_,rfl,nl,_,_,.str x,rfl,rfl,SqL.of (e25 _ _ nl2),hat,?_⟩
   obtain⟨jj,hjj,hjj5⟩:=modN c 5 (by decide)
   refine⟨_,rfl,_,rfl,_,_,rfl,rfl,(show (0:Int)<5 by decide),_,rfl,el,_,rfl,SqL.of k5,fun l6 hl6=>?_⟩
   rw[hjj,ux _ _ (by omega)]
   have s6:=ag hl6 (.lst ((ev.take jj).map V.str))
   have k6:(upd H5 l6 (.lst ((ev.take jj).map V.str))) l6=some (.lst ((ev.take jj).map V.str)):=aa
   generalize upd H5 l6 (.lst ((ev.take jj).map V.str))=H6 at s6 k6 |-
   refine⟨l6,_,rfl,.inl ⟨SqL.of k6,fun pt hpt=>?_⟩⟩
   have s7:=ag hpt (.tup ((ev.take jj).map V.str))
   have k7:(upd H6 pt (.tup ((ev.take jj).map V.str))) pt=some (.tup ((ev.take jj).map V.str)):=aa
   generalize upd H6 pt (.tup ((ev.take jj).map V.str))=H7 at s7 k7 |-
   obtain⟨x5,hx5⟩:∃x,ev[5]? = some x:=⟨_,Af (by omega)⟩
   have hat5:atI (ev.map V.str) 5=some (.str x5):=bn (j:=5) (by rw[Ai,hx5];rfl)
   refine⟨_,rfl,el,_,_,.str x5,rfl,rfl,SqL.of ((s6.trans s7) _ _ k5),hat5,(show 2<=sizeLine by decide),fun l8 hl8=>?_⟩
   have s8:=ag hl8 (.lst [.str "",.str x5])
   have k8:(upd H7 l8 (.lst [.str "",.str x5])) l8=some (.lst [.str "",.str x5]):=aa
   generalize upd H7 l8 (.lst [.str "",.str x5])=H8 at s8 k8 |-
   obtain⟨rv,hrv,hrm⟩:=jr (xs:=[V.str "",V.str x5]) (m:=2) (i:=c / 5 % 3) rfl (by decide)
   obtain⟨res,rfl,hres⟩:∃res:Str,rv=.str res/\(res = "" \/ res∈xs):=by
     rcases Aq.mp hrm with z|z
     . exact⟨_,z,.inl rfl⟩
     . exact⟨_,As.mp z,.inr ((emem x5).mp (Ar hx5))⟩
   refine⟨_,rfl,_,_,rfl,rfl,(show CDiv _ 5 from⟨by decide,by decide⟩),_,_,rfl,rfl,(show (0:Int)<3 by decide),_,_,rfl,rfl,(show (0:Int)<2 by decide),l8,_,_,.str res,rfl,rfl,SqL.of k8,hrv,?_⟩
   refine⟨_,rfl,(show 4<=sizeLine by decide),fun t ht=>?_⟩
   have s9:=ag ht (.tup [.str x,.ref pt,.str res,.ref el])
   have k9:(upd H8 t (.tup [.str x,.ref pt,.str res,.ref el])) t=some (.tup [.str x,.ref pt,.str res,.ref el]):=aa
   generalize upd H8 t (.tup [.str x,.ref pt,.str res,.ref el])=H9 at s9 k9 |-
   have e29:=(((e25.trans s6).trans s7).trans s8).trans s9
   have kl9:=e29 _ _ kl
   have hlt:ts.length=i:=by rw[Ax prd,hln]
   refine⟨l,_,_,rfl,rfl,kl9,bu (by rw[Ad];omega),ts++[t],hs++[⟨x,ev.take jj,res,ev⟩],_,_,_,_,rfl,fun b o z=>?_,?_,?_,?_,?_,?_⟩
   . rw[ae (aj z hl)];exact (sx.trans e29) _ _ z
   . rw[aa,Az];rfl
   . rw[a3g (X:=fun c=>c=l) (a:=l) rfl]
     have ne9:∀{b:Addr} {vs:List V},H9 b=some (.tup vs)->(rm (fun c=>c=l) H9) b=some (.tup vs):=fun {b vs} hb=>by rw[cr (X:=fun c=>c=l) (fun (z:b=l)=>by rw[z,kl9] at hb;cases hb)];exact hb
     refine Paired.app (Paired.mapP prd fun t' d z=>z.keep fun b o y=>df e29 _ _ y) (.cons ⟨pt,el,ne9 k9,ne9 ((s8.trans s9) _ _ k7),?_⟩ .nil)
     rw[cr (X:=fun c=>c=l) (fun (z:el=l)=>by rw[z,((s3.trans s4) _ _ kl)] at hel;cases hel)]
     exact (((s6.trans s7).trans s8).trans s9) _ _ k5
   . rw[Ag,hln];rfl
   . intro h hh
     rcases Al.mp hh with z|z
     . exact hok h z
     . rw[As.mp z];exact⟨eln,end',emem,⟨jj,by omega,rfl⟩,hres⟩
   . rw[Az,hxk,BY,hx];rfl
 . rintro σ H2 ⟨ts,hs,z4,z5,z6,z7,rfl,sx,kl,prd,hln,hok,hxk⟩
   refine hD2 _ _ ?_
   have ek:((k:Int)).toNat=k:=by omega
   refine⟨_,rfl,q l ts hs H2 sx hl kl (Paired.mapP prd fun t h z=>z.keep fun b o y=>dk _ _ y) (by rw[hln];omega) hok ?_⟩
   rw[hxk];first|rfl|(congr 1)
noncomputable abbrev a07:Stmt:=top 40
theorem a8e {X:Cx}{i j l m:Nat}{x y z v:Str}{px py pz pv pos:Pos}{k:Nat}(h1:QG X (.Name x px) (b7 i)) (h2:QG X (.Name y py) (b7 j)) (h3:QG X (.Name z pz) (b7 l)) (h4:QG X (.Name v pv) (b7 m)) (hc:X.calm=true:=by rfl)
   (a1:(assignEach [.Name x px,.Name y py,.Name z pz,.Name v pv] X.env).map (·.2)=assign (.Name x px) X.env::(assignEach [.Name y py,.Name z pz,.Name v pv] X.env).map (·.2):=by rfl) (a2:(assignEach [.Name y py,.Name z pz,.Name v pv] X.env).map (·.2)=assign (.Name y py) X.env::(assignEach [.Name z pz,.Name v pv] X.env).map (·.2):=by rfl) (a3:(assignEach [.Name z pz,.Name v pv] X.env).map (·.2)=assign (.Name z pz) X.env::(assignEach [.Name v pv] X.env).map (·.2):=by rfl) (a4:(assignEach [.Name v pv] X.env).map (·.2)=assign (.Name v pv) X.env::(assignEach [] X.env).map (·.2):=by rfl)
   (hn:(assignEach [.Name x px,.Name y py,.Name z pz,.Name v pv] X.env).length=4:=by rfl) (hst:(assignEach [.Name x px,.Name y py,.Name z pz,.Name v pv] X.env).findIdx? (·.1)=none:=by rfl):QG X (.Tuple [.Name x px,.Name y py,.Name z pz,.Name v pv] k pos) (gTup X.K 4 (ga (b7 i) (ga (b7 j) (ga (b7 l) (ga (b7 m) gNil))))) :=
 ⟨wf hc (di h1.run (di h2.run (di h3.run (di h4.run ni a4) a3) a2) a1) hn hst⟩
inductive Cd
 | set (x e:Str)
 | call (x c:Str) (ws:List Str)
noncomputable def plC:Cd->Pl
 | .set x e=>.row ["set",x,e]
 | .call x c ws=>.call x c ws
noncomputable def Cd.isCall:Cd->Bool
 | .set _ _=>false
 | .call _ _ _=>true
structure Cp where
 name:Str
 ps:List Str
 res:Str
 ds:List Cd
noncomputable def prcC (c:Cp):Prc:=⟨c.name,c.res,c.ps,[],[],[],[],c.ds.map fun d=>.plain (plC d)⟩
noncomputable def CdOk (xs:List Str):Cd->Prop
 | .set x e=>x∈xs/\e∈xs++[("nil" : Str)]
 | .call x c ws=>(x=("" : Str)\/x∈xs)/\c∈xs/\ws.length<=4/\∀w∈ws,w∈xs++[("nil" : Str)]
structure CpOk (xs:List Str) (c:Cp):Prop where
 nm:c.name∈xs
 pn:c.ps.Nodup
 px:∀y∈c.ps,y∈xs
 pl:c.ps.length<=4
 res:c.res = "" \/ c.res∈xs
 ds:∀d∈c.ds,CdOk xs d
 len:c.ds.length<=4
 one:(c.ds.filter Cd.isCall).length<=1
noncomputable def Good (xs:List Str) (hs:List Hd) (j:Nat) (c:Cp):Prop:=CpOk xs c/\(∃h,hs[j]? = some h/\c.name=h.x/\c.ps=h.ps/\c.res=h.res)/\∀(x n:Str) (ws:List Str),Cd.call x n ws∈c.ds->∃h':Hd,hs[j+1]? = some h'/\n=h'.x/\ws.length=h'.ps.length/\(x=("" : Str)\/h'.res≠("" : Str))
structure ProgOk (xs:List Str) (cps:List Cp):Prop where
 ok:∀c∈cps,CpOk xs c
 link:∀(j:Nat) (c:Cp),cps[j]? = some c->∀(x n:Str) (ws:List Str),Cd.call x n ws∈c.ds->∃c':Cp,cps[j+1]? = some c'/\n=c'.name/\ws.length=c'.ps.length/\(x=("" : Str)\/c'.res≠("" : Str))
 nn:(cps.map (·.name)).Nodup
theorem PlAt.keepT {H H':Hp}{t:Addr}{p:Pl}(h:PlAt H t p) (e:∀b vs,H b=some (.tup vs)->H' b=some (.tup vs)):PlAt H' t p:=by
 cases p with
 | row r=>exact e _ _ h
 | call x c vs=>obtain⟨v,h1,h2⟩:=h;exact⟨v,e _ _ h1,e _ _ h2⟩
theorem xy:(("set" : Str),[("name" : Str),"value"])∈forms:=by decide +kernel
theorem ab3 {xs:List Str}(hx:∀x∈xs,b9 x=true) {d:Cd}(h:CdOk xs d):PlOk (plC d):=by
 have o1:∀{y:Str},y∈xs->Ok y:=fun hy=>ju (hx _ hy)
 have o2:∀{y:Str},y∈xs++[("nil" : Str)]->Ok y:=fun hy=>(Al.mp hy).elim o1 fun z=>by rw[As.mp z];exact kf "nil" (by simp)
 cases d with
 | set x e =>
   refine⟨⟨"set",[x,e],_,rfl,xy,rfl⟩,fun y hy=>?_⟩
   simp only[Aq,AE,or_false] at hy
   rcases hy with rfl|rfl|rfl
   . exact kf "set" (by simp)
   . exact o1 h.1
   . exact o2 h.2
 | call x c ws=>exact⟨h.1.elim (fun z=>by rw[z];exact kf "" (by simp)) o1,o1 h.2.1,fun y hy=>o2 (h.2.2.2 y hy)⟩
theorem yh {K:Ab}{H:Hp}{xs:List Str}(hx:∀x∈xs,b9 x=true) {l:Addr}{ts:List Addr}{ds:List Cd}(h:H l=some (.lst (ts.map V.ref))) (hp:Paired (fun t d=>PlAt H t (plC d)) ts ds) (ok:∀d∈ds,CdOk xs d) (hl:ds.length<=30):ListX K H [30] l (ds.map fun d=>.plain (plC d)):=by
 refine⟨ts,h,?_,by rw[Ax hp];exact hl⟩
 clear h hl
 induction hp with
 | nil=>exact .nil
 | cons h1 _ ih=>exact .cons (.plain _ h1 (ab3 hx (ok _ Ah))) (ih fun d hd=>ok d (An _ hd))
inductive spProg (K:Ab) (vs:List V) (H:Hp) (Q:VK) (E:XK):Prop
 | mk (a nl:Addr) (ns:List Int) (xs:List Str) (k:Nat) (h0:vs=[.ref a,.ref nl,.int (k:Int)]) (h1:SqL K H a (ns.map V.int)) (h2:H nl=some (.lst (xs.map V.str))) (h3:xs.length=6) (hn:xs.Nodup) (hx:∀x∈xs,b9 x=true) (hk:k<=4)
     (q:∀l (ts:List Addr) (cps:List Cp) H',Same H H'->H l=none->H' l=some (.lst (ts.map V.ref))->Paired (fun t c=>PrcAt K H' [30] t (prcC c)) ts cps->cps.length=k->ProgOk xs cps->Q (.ref l) H'):spProg K vs H Q E
inductive PI (K:Ab) (a nl hl l:Addr) (k:Nat) (xs:List Str) (hs:List Hd) (H1:Hp) (i:Nat) (σ:St) (H':Hp):Prop
 | mk (ts:List Addr) (cps:List Cp) (z5 z6 z7 z8 z9 z10 z11 z12 z13 z14:Option V) (hσ:σ=[some (.ref a),some (.ref nl),some (.int (k:Int)),some (.ref hl),some (.ref l),z5,z6,z7,z8,z9,z10,z11,z12,z13,z14]) (sx:Same H1 H') (kl:H' l=some (.lst (ts.map V.ref))) (prd:Paired (fun t c=>PrcAt K (rm (fun b=>b=l) H') [30] t (prcC c)) ts cps) (hcl:cps.length=i) (hgd:∀(j:Nat) (c:Cp),cps[j]? = some c->Good xs hs j c)
theorem scProg:FnScope ["_law_script","_law_names_here","_law_many","_law_heads_here","_law_program_here","_law_k","_law_name","_law_params","_law_result","_law_every","_law_own","_law_digits","_law_deeds","_law_given","_law_into"] ["_law_script","_law_names_here","_law_many"] (aq a07):=⟨rfl,rfl,rfl,by decide +kernel,rfl,by decide +kernel,by decide +kernel⟩
theorem a7t (C:Con K mg w) (F:Fun K "_law_program" "_law_program" a07 f fd) (GC:FnOk P w K mg base CX0 1 gC dC ["_law_script","_law_k"] (qy K)) (cC:Cal K mg "_law_cell_at" gC dC ["_law_script","_law_k"]) (GH:FnOk P w K mg base CX0 2 gH dH ["_law_script","_law_names_here","_law_many"] (spHeads K)) (cH:Cal K mg "_law_heads" gH dH ["_law_script","_law_names_here","_law_many"])
   (GF:FnOk P w K mg base CX0 2 gF dF ["_law_cell","_law_k"] a1g) (cF:Cal K mg "_law_fed" gF dF ["_law_cell","_law_k"]) (GD:FnOk P w K mg base CX0 1 gD dD ["_law_digits","_law_many"] mq) (cD:Cal K mg "_law_digit" gD dD ["_law_digits","_law_many"]) (GS:FnOk P w K mg base CX0 2 gS dS ["_law_digits","_law_many","_law_own","_law_every"] spSets) (cS:Cal K mg "_law_sets" gS dS ["_law_digits","_law_many","_law_own","_law_every"]):FnOk P w K mg base CX0 3 f fd ["_law_script","_law_names_here","_law_many"] (spProg K):=by
 refine F.okQ scProg (fun vs H Q E h=>?_) (fun cdv A outer s0 H vs Q E hr h=>?_)
 . obtain⟨_,_,_,_,_,rfl,_⟩:=h;rfl
 obtain⟨a,nl,ns,xs,k,rfl,h1,h2,h3,hn,hx,hk,q⟩:=h
 have nd:=scProg.nd
 have hu1:=dw hr
 have hr1:=hr.mono (j:=1) (by omega)
 refine⟨_,af (aw (i:=3) nd rfl (Or.inl rfl) (ar GH hr rfl cH.name cH.keep cH.bind .nil ap (ak (qv 0) (ak (qv 1) (ak (qv 2) ad)))))
   (af (aw (i:=4) nd rfl (Or.inl rfl) (br ad))
   (af (c8 AM rfl (fi rfl C.range (ak (qv 2) ad)) (b8 (i:=5) nd rfl (Or.inl rfl)) (af (jk (ah (ixK (K:=K) rfl) (qv 3) (qv 5) (fun _ _=>rfl)) (a8e (b8 (i:=6) nd rfl (Or.inl rfl)) (b8 (i:=7) nd rfl (Or.inl rfl)) (b8 (i:=8) nd rfl (Or.inl rfl)) (b8 (i:=9) nd rfl (Or.inr rfl))))
   (af (aw (i:=10) nd rfl (Or.inl rfl) (c4 (ku (K:=K) rfl) (qv 9) (cb (bc (lenK (K:=K) rfl) rfl C.len Bk (ak (qv 7) ad))) ca))
   (af (aw (i:=11) nd rfl (Or.inr rfl) (ar GF hr rfl cF.name cF.keep cF.bind .nil ap (b5 (ar GC hr1 rfl cC.name cC.keep cC.bind .nil ap (ak (qv 0) (fc (ax bm ac (qv 5)) ad))) (fc (ax bm ac (qv 5)) ad))))
   (af (aw (i:=12) nd rfl (Or.inl rfl) (ar GS hr rfl cS.name cS.keep cS.bind .nil ap (ak (qv 11) (b5 (ar GD hr1 rfl cD.name cD.keep cD.bind .nil ap (ak (qv 11) (bj ad))) (ak (qv 10) (ak (qv 9) ad))))))
   (af (bf (ay um (ax bm (qv 5) ac) (qv 2) (az _)) (af (xj ["_law_j","_law_every","_law_digits"] [9,11] (i:=13) nd rfl (Or.inl rfl) (fi rfl C.range (b5 (bc (lenK (K:=K) rfl) rfl C.len Bk (av (ah (ixTK (K:=K) rfl) (ah (ixK (K:=K) rfl) (qv 3) (ax bm (qv 5) ac) (fun _ _=>rfl)) ac (fun _ _=>rfl)) ad)) ad)) (fun _ _ _ _=>il) (fun _ _ _ _=>(ah (ixK (K:=K) rfl) (ax gi (qv 1) (br (cf ad))) (ar GD hr1 rfl cD.name cD.keep cD.bind .nil ap (ak (qv 2) (bj ad))) (fun _ _=>rfl))))
   (af (aw (i:=14) nd rfl (Or.inl rfl) (ah (ixK (K:=K) rfl) (qv 10) (ar GD hr1 rfl cD.name cD.keep cD.bind .nil ap (ak (qv 11) (b5 (bc (lenK (K:=K) rfl) rfl C.len Bk (ak (qv 10) ad)) ad))) (fun _ _=>rfl)))
   (af (bf (ay bp (ah (ixTK (K:=K) rfl) (ah (ixK (K:=K) rfl) (qv 3) (ax bm (qv 5) ac) (fun _ _=>rfl)) ac (fun _ _=>rfl)) b6 (az _)) (ai (aw (i:=14) nd rfl (Or.inl rfl) b6)) bo)
   (af (bx (du (K:=K) rfl AW BA BB d0 (qv 12) (gx (cf (ak (qv 14) (av (ah (ixTK (K:=K) rfl) (ah (ixK (K:=K) rfl) (qv 3) (ax bm (qv 5) ac) (fun _ _=>rfl)) ac (fun _ _=>rfl)) (b5 (be ia rfl C.tuple Dl (ak (qv 13) ad)) ad)))) ad)))
   (ai (bx (du (K:=K) rfl AW De Df j7 (qv 12) (b5 (ar GS hr rfl cS.name cS.keep cS.bind .nil ap (ak (qv 11) (b5 (ar GD hr1 rfl cD.name cD.keep cD.bind .nil ap (ak (qv 11) (bj ad))) (ak (qv 10) (ak (qv 9) ad))))) ad)))))))) bo)
   (ai (bx (du (K:=K) rfl AW BA BB d0 (qv 4) (gx (ak (qv 6) (ak (qv 7) (ak (qv 8) (gx (mj ad (mj ad ad)) (gx (mj ad (mj ad ad)) (ak (qv 12) ad)))))) ad))))))))))
   (ai (b0 (qv 4))))),?_⟩
 refine ao (a:=tAsg _ _) fun D1 hD1 _ _=>?_
 refine⟨_,rfl,_,rfl,_,rfl,.mk a nl ns xs k rfl h1 h2 h3 hn hk fun hl tsh hs H1 e1 nhl khl prh hln hok hxk=>?_⟩
 refine hD1 [some (.ref a),some (.ref nl),some (.int (k:Int)),some (.ref hl),none,none,none,none,none,none,none,none,none,none,none] _ ?_
 clear hD1
 refine ao (a:=tAsg _ _) fun D2 hD2 _ _=>?_
 refine⟨A8 _,fun l hll=>?_⟩
 have s1:=ag hll (.lst [])
 have k1:(upd H1 l (.lst [])) l=some (.lst []):=aa
 generalize upd H1 l (.lst [])=H1' at s1 k1 |-
 refine hD2 [some (.ref a),some (.ref nl),some (.int (k:Int)),some (.ref hl),some (.ref l),none,none,none,none,none,none,none,none,none,none] _ ?_
 clear hD2
 refine ao (a:=tFor _ _ _) fun D3 hD3 _ _=>?_
 refine⟨_,rfl,_,rfl,(by omega),(by omega),?_⟩
 have hlh:tsh.length=k:=by rw[Ax prh,hln]
 refine fh (PI K a nl hl l k xs hs H1) ⟨[],[],none,none,none,none,none,none,none,none,none,none,rfl,s1,k1,.nil,rfl,fun j c hj=>by cases hj⟩ ?_ ?_
 . rintro i σ H2 hi ⟨ts,cps,z5,z6,z7,z8,z9,z10,z11,z12,z13,z14,rfl,sx,kl,prd,hcl,hgd⟩
   have hik:i<k:=by omega
   have modN:∀(x:Int) (m:Int),0<m->∃j:Nat,x % m=(j:Int)/\(j:Int)<m:=fun x m hm=>⟨(x % m).toNat,by have:=Bz x (DE hm);omega,by have:=Bz x (DE hm);have:=BE x hm;omega⟩
   obtain⟨th,hth⟩:∃x,tsh[i]? = some x:=⟨_,Af (by omega)⟩
   obtain⟨h,hh⟩:∃x,hs[i]? = some x:=⟨_,Af (by omega)⟩
   have ho:=hok h (Ar hh)
   obtain⟨pt,el,kth,kpt,kel⟩:=Paired.at2 prh hth hh
   have hxm:h.x∈xs:=by
     have:h.x∈hs.map (·.x):=AH (Ar hh)
     rw[hxk] at this
     exact BU this
   refine ao (a:=tAsg _ _) fun D4 hD4 _ _=>?_
   have hat:atI (tsh.map V.ref) (0+(i:Int))=some (.ref th):=by rw[Jc];exact bn (by rw[Ai,hth];rfl)
   refine⟨_,rfl,_,rfl,hl,_,_,.ref th,rfl,rfl,SqL.of (sx _ _ khl),hat,th,_,rfl,SqT.of (sx _ _ kth),rfl,_,_,rfl,_,_,rfl,_,_,rfl,_,_,rfl,rfl,?_⟩
   refine hD4 [some (.ref a),some (.ref nl),some (.int (k:Int)),some (.ref hl),some (.ref l),some (.int (0+(i:Int))),some (.str h.x),some (.ref pt),some (.str h.res),some (.ref el),z10,z11,z12,z13,z14] _ ?_
   clear hD4
   obtain⟨jj,hjj,hps⟩:=ho.ps
   have hpl:h.ps.length=jj:=by rw[hps,AG,ho.ln];omega
   refine ao (a:=tAsg _ _) fun D5 hD5 _ _=>?_
   refine⟨_,rfl,_,rfl,pt,_,rfl,.inr (SqT.of (sx _ _ kpt)),_,rfl,el,_,rfl,SqL.of (sx _ _ kel),fun ow how=>?_⟩
   rw[Ad,hpl,ij]
   have s3:=ag how (.lst ((h.ev.drop jj).map V.str))
   have k3:(upd H2 ow (.lst ((h.ev.drop jj).map V.str))) ow=some (.lst ((h.ev.drop jj).map V.str)):=aa
   generalize upd H2 ow (.lst ((h.ev.drop jj).map V.str))=H3 at s3 k3 |-
   have owl:(h.ev.drop jj).length=6 - jj:=by rw[Be,ho.ln]
   have owm:∀y∈h.ev.drop jj,y∈xs:=fun y hy=>(ho.mem y).mp (CU hy)
   generalize h.ev.drop jj=own at k3 owl owm
   refine hD5 [some (.ref a),some (.ref nl),some (.int (k:Int)),some (.ref hl),some (.ref l),some (.int (0+(i:Int))),some (.str h.x),some (.ref pt),some (.str h.res),some (.ref el),some (.ref ow),z11,z12,z13,z14] _ ?_
   clear hD5
   refine ao (a:=tAsg _ _) fun D6 hD6 _ _=>?_
   refine⟨_,rfl,_,rfl,_,_,rfl,rfl,a,ns,_,rfl,(((e1.trans sx).trans s3).seq h1),_,rfl,_,_,rfl,rfl,_,_,rfl,fun dl hdl=>?_⟩
   generalize fedF _ _=n0
   have s4:=ag hdl (.lst [V.int n0])
   have k4:(upd H3 dl (.lst [V.int n0])) dl=some (.lst [V.int n0]):=aa
   generalize upd H3 dl (.lst [V.int n0])=H4 at s4 k4 |-
   have e24:=s3.trans s4
   have ndl2:H2 dl=none:=s3.free hdl
   refine hD6 [some (.ref a),some (.ref nl),some (.int (k:Int)),some (.ref hl),some (.ref l),some (.int (0+(i:Int))),some (.str h.x),some (.ref pt),some (.str h.res),some (.ref el),some (.ref ow),some (.ref dl),z12,z13,z14] _ ?_
   clear hD6
   refine ao (a:=tAsg _ _) fun D7 hD7 _ _=>?_
   obtain⟨kk,hkk,hkk3⟩:=modN n0 3 (by decide)
   refine⟨_,rfl,_,rfl,dl,n0,3,rfl,k4,(by decide),(by decide),?_⟩
   rw[hkk]
   have u5:∀{b:Addr} {o:HO},b≠dl->H4 b=some o->(upd H4 dl (.lst [V.int (n0 / 3)])) b=some o:=fun nb hb=>by rw[ae nb];exact hb
   have k5:(upd H4 dl (.lst [V.int (n0 / 3)])) dl=some (.lst [V.int (n0 / 3)]):=aa
   have f5:∀{b:Addr},(upd H4 dl (.lst [V.int (n0 / 3)])) b=none->H4 b=none:=fun {b} hb=>by rw[ae (fun z=>by rw[z,aa] at hb;cases hb)] at hb;exact hb
   generalize n0 / 3=n1 at u5 k5 f5 |-
   generalize upd H4 dl (.lst [V.int n1])=H5 at u5 k5 f5 |-
   have nod:ow≠dl:=fun z=>by rw[z,(s3.free hdl)] at how;rw[z] at k3;rw[hdl] at k3;cases k3
   have ned:el≠dl:=fun z=>by have y:=sx _ _ kel;rw[z,ndl2] at y;cases y
   have k2:∀{b:Addr} {o:HO},H2 b=some o->H5 b=some o:=fun {b o} hb=>u5 (aj hb ndl2) (e24 _ _ hb)
   refine⟨_,rfl,_,rfl,.mk dl ow el n1 kk own h.ev rfl k5 (u5 nod (s4 _ _ k3)) (k2 (sx _ _ kel)) nod ned (by omega) (by omega) (by omega) (by rw[ho.ln];decide) fun de n2 sds dts H6 sx6 k6 nde kde pr6 hsl hsi=>?_⟩
   have nde2:H2 de=none:=e24.free (f5 nde)
   have e26:Same H2 H6:=fun b o hb=>sx6 _ _ (k2 hb) (aj hb ndl2)
   refine hD7 [some (.ref a),some (.ref nl),some (.int (k:Int)),some (.ref hl),some (.ref l),some (.int (0+(i:Int))),some (.str h.x),some (.ref pt),some (.str h.res),some (.ref el),some (.ref ow),some (.ref dl),some (.ref de),z13,z14] _ ?_
   clear hD7
   have psOk:h.ps.Nodup/\(∀y∈h.ps,y∈xs)/\h.ps.length<=4:=by
     rw[hps]
     exact⟨ho.nd.sublist (CQ _ _),fun y hy=>(ho.mem y).mp (BU hy),by rw[AG];omega⟩
   have sdOk:∀{sds:List (Str×Str)},(∀d∈sds,d.1∈own/\d.2∈h.ev++[("nil" : Str)])->∀d∈sds.map (fun d=>Cd.set d.1 d.2),CdOk xs d:=fun hin d hd=>by
     obtain⟨y,hy,rfl⟩:=A9.mp hd
     exact⟨owm _ (hin y hy).1,Al.mpr ((Al.mp (hin y hy).2).imp (ho.mem _).mp id)⟩
   have sdPl:∀{G:Hp} {ts':List Addr} {sds:List (Str×Str)},Paired (fun t d=>G t=some (.tup (setR d))) ts' sds->Paired (fun t d=>PlAt G t (plC d)) ts' (sds.map fun d=>Cd.set d.1 d.2):=fun hp=>by
     induction hp with
     | nil=>exact .nil
     | cons h1 _ ih=>exact .cons h1 ih
   have sdNo:∀(sds:List (Str×Str)),(sds.map fun d=>Cd.set d.1 d.2).filter Cd.isCall=[]:=fun sds=>by
     induction sds with
     | nil=>rfl
     | cons d sds ih=>exact ih
   refine ao (a:=tIfS _ _ _) fun D8 hD8 _ _=>?_
   have fin:∀(G:Hp) (ds:List Cd) (ts':List Addr) (z13 z14:Option V),Same H2 G->G de=some (.lst (ts'.map V.ref))->Paired (fun t d=>PlAt G t (plC d)) ts' ds->(∀d∈ds,CdOk xs d)->ds.length<=4->(ds.filter Cd.isCall).length<=1->(∀(x n:Str) (ws:List Str),Cd.call x n ws∈ds->∃h':Hd,hs[i+1]? = some h'/\n=h'.x/\ws.length=h'.ps.length/\(x=("" : Str)\/h'.res≠("" : Str)))->D8.nx [some (.ref a),some (.ref nl),some (.int (k:Int)),some (.ref hl),some (.ref l),some (.int (0+(i:Int))),some (.str h.x),some (.ref pt),some (.str h.res),some (.ref el),some (.ref ow),some (.ref dl),some (.ref de),z13,z14] G:=by
     intro G ds ts' z13 z14 eG kde' prp hds hdl4 hone hlink
     refine hD8 _ _ ?_
     have z0:0<=sizeLine:=A8 _
     have zz2:2<=sizeLine:=by decide
     have klG:=eG _ _ kl
     refine⟨_,rfl,.inl ⟨rfl,_,SqL.of klG⟩,_,rfl,_,rfl,_,rfl,z0,fun f1 hf1=>?_⟩
     have a2:=ag hf1 (.lst [])
     have kf1:(upd G f1 (.lst [])) f1=some (.lst []):=aa
     generalize upd G f1 (.lst [])=J2 at a2 kf1 |-
     refine⟨z0,fun p1 hp1=>?_⟩
     have a3:=ag hp1 (.lst [])
     have kp1:(upd J2 p1 (.lst [])) p1=some (.lst []):=aa
     generalize upd J2 p1 (.lst [])=J3 at a3 kp1 |-
     refine⟨zz2,fun t1 ht1=>?_⟩
     have a4:=ag ht1 (.tup [.ref f1,.ref p1])
     have kt1:(upd J3 t1 (.tup [.ref f1,.ref p1])) t1=some (.tup [.ref f1,.ref p1]):=aa
     generalize upd J3 t1 (.tup [.ref f1,.ref p1])=J4 at a4 kt1 |-
     refine⟨z0,fun f2 hf2=>?_⟩
     have a5:=ag hf2 (.lst [])
     have kf2:(upd J4 f2 (.lst [])) f2=some (.lst []):=aa
     generalize upd J4 f2 (.lst [])=J5 at a5 kf2 |-
     refine⟨z0,fun p2 hp2=>?_⟩
     have a6:=ag hp2 (.lst [])
     have kp2:(upd J5 p2 (.lst [])) p2=some (.lst []):=aa
     generalize upd J5 p2 (.lst [])=J6 at a6 kp2 |-
     refine⟨zz2,fun t2 ht2=>?_⟩
     have a7:=ag ht2 (.tup [.ref f2,.ref p2])
     have kt2:(upd J6 t2 (.tup [.ref f2,.ref p2])) t2=some (.tup [.ref f2,.ref p2]):=aa
     generalize upd J6 t2 (.tup [.ref f2,.ref p2])=J7 at a7 kt2 |-
     have a27:Same G J7:=((((a2.trans a3).trans a4).trans a5).trans a6).trans a7
     refine⟨_,rfl,(show 6<=sizeLine by decide),fun tp htp=>?_⟩
     have a8:=ag htp (.tup [.str h.x,.ref pt,.str h.res,.ref t1,.ref t2,.ref de])
     have ktp:(upd J7 tp (.tup [.str h.x,.ref pt,.str h.res,.ref t1,.ref t2,.ref de])) tp=some (.tup [.str h.x,.ref pt,.str h.res,.ref t1,.ref t2,.ref de]):=aa
     generalize upd J7 tp (.tup [.str h.x,.ref pt,.str h.res,.ref t1,.ref t2,.ref de])=J8 at a8 ktp |-
     have b1:Same G J8:=a27.trans a8
     have kl8:=b1 _ _ klG
     have nel:∀{b:Addr} {o:HO},J8 b=some o->b≠l->(rm (fun b=>b=l) J8) b=some o:=fun {b o} hb nb=>by rw[cr (X:=fun b=>b=l) nb];exact hb
     have net:∀{b:Addr} {vs:List V},J8 b=some (.tup vs)->(rm (fun b=>b=l) J8) b=some (.tup vs):=fun {b vs} hb=>nel hb fun z=>by rw[z,kl8] at hb;cases hb
     have newl:∀{b:Addr} {o:HO} {J:Hp},J b=none->Same G J->b≠l:=fun {b o J} hb e z=>by rw[z,e _ _ klG] at hb;cases hb
     have hPx:PrcAt K (rm (fun b=>b=l) J8) [30] tp (prcC ⟨h.x,h.ps,h.res,ds⟩):=by
       have n0:(∀r∈([]:List (List Str)),∀y∈r,Ok y)/\∀r∈([]:List (List Str)),∀y∈r,Ok y:=⟨(fun r hr=>by cases hr),(fun r hr=>by cases hr)⟩
       refine⟨pt,t1,t2,f1,p1,f2,p2,de,net ktp,net (b1 _ _ (eG _ _ (sx _ _ kpt))),net (((((a5.trans a6).trans a7).trans a8)) _ _ kt1),net (a8 _ _ kt2),⟨[],nel ((((((a3.trans a4).trans a5).trans a6).trans a7).trans a8) _ _ kf1) (newl (o:=.lst []) hf1 (Same.refl _)),.nil⟩,⟨[],nel (((((a4.trans a5).trans a6).trans a7).trans a8) _ _ kp1) (newl (o:=.lst []) hp1 a2),.nil⟩,⟨[],nel (((a6.trans a7).trans a8) _ _ kf2) (newl (o:=.lst []) hf2 ((a2.trans a3).trans a4)),.nil⟩,⟨[],nel ((a7.trans a8) _ _ kp2) (newl (o:=.lst []) hp2 (((a2.trans a3).trans a4).trans a5)),.nil⟩,?_,ju (hx _ hxm),?_,fun y hy=>ju (hx y (psOk.2.1 y hy)),n0,n0,⟨A8 _,A8 _⟩,⟨A8 _,A8 _⟩⟩
       . exact yh hx (nel (b1 _ _ kde') (fun z=>by rw[z,kl] at nde2;cases nde2)) (Paired.mapP prp fun t d z=>z.keepT fun b vs hb=>net (b1 _ _ hb)) hds (A0 hdl4 (by decide))
       . exact ho.res.elim (fun z=>by show Ok h.res;rw[z];exact kf "" (by simp)) fun z=>ju (hx _ z)
     have hlt:ts.length=i:=by rw[Ax prd,hcl]
     refine⟨l,_,_,rfl,rfl,kl8,bu (by rw[Ad];omega),ts++[tp],cps++[⟨h.x,h.ps,h.res,ds⟩],_,_,_,_,_,_,_,_,_,_,rfl,fun b o z=>?_,?_,?_,?_,?_⟩
     . rw[ae (aj z hll)];exact ((sx.trans eG).trans b1) _ _ z
     . rw[aa,Az];rfl
     . rw[a3g (X:=fun b=>b=l) (a:=l) rfl]
       exact Paired.app (Paired.mapP prd fun t' d z=>z.same (df (eG.trans b1))) (.cons hPx .nil)
     . rw[Ag,hcl];rfl
     . intro j c hj
       rcases EC j cps.length with z|z
       . rw[Fp z] at hj;exact hgd j c hj
       . rw[Fe z] at hj
         obtain⟨e0,rfl⟩:j - cps.length=0/\c=⟨h.x,h.ps,h.res,ds⟩:=by
           cases hq:j - cps.length with
           | zero=>rw[hq] at hj;exact⟨rfl,(Ay hj).symm⟩
           | succ m=>rw[hq] at hj;cases hj
         have ej:j=i:=by omega
         subst ej
         exact⟨⟨hxm,psOk.1,psOk.2.1,psOk.2.2,ho.res,hds,hdl4,hone⟩,⟨h,hh,rfl,rfl,rfl⟩,hlink⟩
   have k06:∀{b:Addr} {o:HO},H1 b=some o->H6 b=some o:=fun hb=>e26 _ _ (sx _ _ hb)
   refine⟨_,rfl,_,_,rfl,rfl,_,rfl,_,_,rfl,rfl,_,rfl,iteB (fun c1=>?_) (fun c1=>?_)⟩
   . have hik1:i+1<k:=by have:=of_decide_eq_true c1;omega
     obtain⟨th',hth'⟩:∃x,tsh[i+1]? = some x:=⟨_,Af (by omega)⟩
     obtain⟨h',hh'⟩:∃x,hs[i+1]? = some x:=⟨_,Af (by omega)⟩
     have ho':=hok h' (Ar hh')
     obtain⟨pt',el',kth',kpt',kel'⟩:=Paired.at2 prh hth' hh'
     have hxm':h'.x∈xs:=by
       have:h'.x∈hs.map (·.x):=AH (Ar hh')
       rw[hxk] at this
       exact BU this
     have hat':atI (tsh.map V.ref) (0+(i:Int)+1)=some (.ref th'):=by rw[show (0+(i:Int)+1)=((i+1:Nat):Int) by omega];exact bn (by rw[Ai,hth'];rfl)
     have hpl':h'.ps.length<=4:=by obtain⟨j',hj',e'⟩:=ho'.ps;rw[e',AG];omega
     refine ao (a:=tAsg _ _) fun D9 hD9 _ _=>?_
     refine⟨_,rfl,_,rfl,_,_,rfl,rfl,hl,_,_,.ref th',rfl,rfl,SqL.of (k06 khl),hat',th',_,1,_,rfl,rfl,SqT.of (k06 kth'),rfl,pt',_,rfl,.inr (SqT.of (k06 kpt')),_,rfl,(by rw[Ad];omega),(by rw[Ad];omega),?_⟩
     refine a5y (fun w=>w∈xs++[("nil" : Str)]) (by rw[Ad];omega) k6 (fun j G m1 sG kG Q' q'=>?_) (fun D G m1 ws nD sG kG kD wl win=>?_)
     . have kel2:=sG _ _ (k06 kel) ned
       refine⟨_,rfl,(show 1<=sizeLine by decide),fun c hc=>?_⟩
       have s3':=ag hc (.lst [V.str "nil"])
       have k3':(upd G c (.lst [V.str "nil"])) c=some (.lst [V.str "nil"]):=aa
       generalize upd G c (.lst [V.str "nil"])=G3 at s3' k3' |-
       refine⟨el,c,_,_,rfl,rfl,s3' _ _ kel2,k3',bi (by rw[Ad,ho.ln];decide),fun e he=>?_⟩
       have s4':=ag he (.lst (h.ev.map V.str++[V.str "nil"]))
       have k4':(upd G3 e (.lst (h.ev.map V.str++[V.str "nil"]))) e=some (.lst ((h.ev++[("nil" : Str)]).map V.str)):=by rw[aa,Az];rfl
       generalize upd G3 e (.lst (h.ev.map V.str++[V.str "nil"]))=G4 at s4' k4' |-
       have ned':e≠dl:=fun z=>by rw[z,(s3' _ _ kG)] at he;cases he
       obtain⟨ve,hve,hvm⟩:=jr (xs:=(h.ev++[("nil" : Str)]).map V.str) (m:=7) (i:=m1) (by rw[Ad,Ag,ho.ln];rfl) (by decide)
       obtain⟨we,hwe,rfl⟩:=A9.mp hvm
       refine⟨_,rfl,dl,m1,7,rfl,(s3'.trans s4') _ _ kG,(by decide),(by decide),?_⟩
       refine⟨e,_,_,.str we,rfl,rfl,SqL.of (by rw[ae ned'];exact k4'),hve,q' we (m1 / 7) _ (fun b o hb nb=>by rw[ae nb];exact (s3'.trans s4') _ _ hb) aa (Al.mpr ((Al.mp hwe).imp (ho.mem _).mp id))⟩
     . rw[Ad] at wl
       refine hD9 [some (.ref a),some (.ref nl),some (.int (k:Int)),some (.ref hl),some (.ref l),some (.int (0+(i:Int))),some (.str h.x),some (.ref pt),some (.str h.res),some (.ref el),some (.ref ow),some (.ref dl),some (.ref de),some (.ref D),z14] _ ?_
       clear hD9
       have ndd:de≠dl:=fun z=>by rw[z,k5] at nde;cases nde
       have e2G:Same H2 G:=fun b o hb=>sG _ _ (e26 _ _ hb) (aj hb ndl2)
       have kow6:H6 ow=some (.lst (own.map V.str)):=sx6 _ _ (u5 nod (s4 _ _ k3)) nod
       have kowG:=sG _ _ kow6 nod
       have kdeG:=sG _ _ kde ndd
       have prG:Paired (fun t d=>PlAt G t (plC d)) dts (sds.map fun d=>Cd.set d.1 d.2):=Paired.mapP (sdPl pr6) fun t d z=>z.keepT fun b vs hb=>sG _ _ hb fun y=>by rw[y,k6] at hb;cases hb
       obtain⟨vx,hvx,hvxm⟩:=jr (xs:=own.map V.str) (m:=(((own.map V.str).length:Nat):Int)) (i:=m1) rfl (by rw[Ad];omega)
       obtain⟨wx,hwx,rfl⟩:=A9.mp hvxm
       refine ao (a:=tAsg _ _) fun D10 hD10 _ _=>?_
       refine⟨_,rfl,_,rfl,_,rfl,ow,_,rfl,.inl (SqL.of kowG),dl,m1,_,rfl,kG,(by rw[Ad];omega),(by rw[Ad];refine HS (show ((own.length:Nat):Int)<=9 by omega) (by decide)),?_⟩
       have u7:∀{b:Addr} {o:HO},b≠dl->G b=some o->(upd G dl (.lst [V.int (m1 / (((own.map V.str).length:Nat):Int))])) b=some o:=fun nb hb=>by rw[ae nb];exact hb
       have k7:(upd G dl (.lst [V.int (m1 / (((own.map V.str).length:Nat):Int))])) dl=some (.lst [V.int (m1 / (((own.map V.str).length:Nat):Int))]):=aa
       generalize m1 / (((own.map V.str).length:Nat):Int)=m2 at u7 k7 |-
       generalize upd G dl (.lst [V.int m2])=G7 at u7 k7 |-
       refine⟨ow,_,_,.str wx,rfl,rfl,SqL.of (u7 nod kowG),hvx,?_⟩
       refine hD10 [some (.ref a),some (.ref nl),some (.int (k:Int)),some (.ref hl),some (.ref l),some (.int (0+(i:Int))),some (.str h.x),some (.ref pt),some (.str h.res),some (.ref el),some (.ref ow),some (.ref dl),some (.ref de),some (.ref D),some (.str wx)] _ ?_
       clear hD10
       have e27:Same H2 G7:=fun b o hb=>u7 (aj hb ndl2) (e2G _ _ hb)
       have k17:∀{b:Addr} {o:HO},H1 b=some o->G7 b=some o:=fun hb=>e27 _ _ (sx _ _ hb)
       have kde7:=u7 ndd kdeG
       have nDd:D≠dl:=fun z=>by rw[z,k6] at nD;cases nD
       have kD7:=u7 nDd kD
       have pr7:Paired (fun t d=>PlAt G7 t (plC d)) dts (sds.map fun d=>Cd.set d.1 d.2):=Paired.mapP prG fun t d z=>z.keepT fun b vs hb=>u7 (fun y=>by rw[y,kG] at hb;cases hb) hb
       refine ao (a:=tIfS _ _ _) fun D11 hD11 _ _=>?_
       have rest:∀into:Str,(into=("" : Str)\/into∈xs)->(into=("" : Str)\/h'.res≠("" : Str))->D11.nx [some (.ref a),some (.ref nl),some (.int (k:Int)),some (.ref hl),some (.ref l),some (.int (0+(i:Int))),some (.str h.x),some (.ref pt),some (.str h.res),some (.ref el),some (.ref ow),some (.ref dl),some (.ref de),some (.ref D),some (.str into)] G7:=fun into i1 i2=>by
         refine hD11 _ _ ?_
         refine ao (a:=ql _) fun D12 hD12 _ _=>?_
         refine⟨_,rfl,.inl ⟨rfl,_,SqL.of kde7⟩,_,rfl,_,rfl,_,rfl,_,_,rfl,rfl,hl,_,_,.ref th',rfl,rfl,SqL.of (k17 khl),hat',th',_,0,_,rfl,rfl,SqT.of (k17 kth'),at0,_,rfl,D,_,rfl,.inl ⟨SqL.of kD7,fun v hv=>?_⟩⟩
         have s8:=ag hv (.tup (ws.map V.str))
         have k8:(upd G7 v (.tup (ws.map V.str))) v=some (.tup (ws.map V.str)):=aa
         generalize upd G7 v (.tup (ws.map V.str))=G8 at s8 k8 |-
         refine⟨(show 4<=sizeLine by decide),fun tc htc=>?_⟩
         have s9:=ag htc (.tup [.str "call",.str into,.str h'.x,.ref v])
         have k9:(upd G8 tc (.tup [.str "call",.str into,.str h'.x,.ref v])) tc=some (.tup [.str "call",.str into,.str h'.x,.ref v]):=aa
         generalize upd G8 tc (.tup [.str "call",.str into,.str h'.x,.ref v])=G9 at s9 k9 |-
         have e79:=s8.trans s9
         have kde9:=e79 _ _ kde7
         have hdt:dts.length=sds.length:=by rw[Ax pr6]
         refine⟨de,_,_,rfl,rfl,kde9,bu (by rw[Ad];omega),?_⟩
         have u10:∀{b:Addr} {o:HO},b≠de->G9 b=some o->(upd G9 de (.lst (dts.map V.ref++[V.ref tc]))) b=some o:=fun nb hb=>by rw[ae nb];exact hb
         have k10:(upd G9 de (.lst (dts.map V.ref++[V.ref tc]))) de=some (.lst ((dts++[tc]).map V.ref)):=by rw[aa,Az];rfl
         have f10:∀{b:Addr},(upd G9 de (.lst (dts.map V.ref++[V.ref tc]))) b=none->G9 b=none:=fun {b} hb=>by rw[ae (fun z=>by rw[z,aa] at hb;cases hb)] at hb;exact hb
         generalize upd G9 de (.lst (dts.map V.ref++[V.ref tc]))=G10 at u10 k10 f10 |-
         have t10:∀{b:Addr} {vs:List V},G9 b=some (.tup vs)->G10 b=some (.tup vs):=fun {b vs} hb=>u10 (fun y=>by rw[y,kde9] at hb;cases hb) hb
         refine hD12 [some (.ref a),some (.ref nl),some (.int (k:Int)),some (.ref hl),some (.ref l),some (.int (0+(i:Int))),some (.str h.x),some (.ref pt),some (.str h.res),some (.ref el),some (.ref ow),some (.ref dl),some (.ref de),some (.ref D),some (.str into)] _ ?_
         clear hD12
         have e210:Same H2 G10:=fun b o hb=>u10 (aj hb nde2) (e79 _ _ (e27 _ _ hb))
         have kdl10:=u10 (Br ndd) (e79 _ _ k7)
         have kow10:=u10 (fun z=>by have y:=k3;rw[z,s4.free (f5 nde)] at y;cases y) (e79 _ _ (u7 nod kowG))
         refine⟨_,rfl,.inl ⟨rfl,_,SqL.of k10⟩,?_⟩
         obtain⟨kb,hkb,hkb2⟩:=modN m2 2 (by decide)
         refine⟨_,rfl,_,rfl,dl,m2,2,rfl,kdl10,(by decide),(by decide),?_⟩
         rw[hkb]
         have u11:∀{b:Addr} {o:HO},b≠dl->G10 b=some o->(upd G10 dl (.lst [V.int (m2 / 2)])) b=some o:=fun nb hb=>by rw[ae nb];exact hb
         have k11:(upd G10 dl (.lst [V.int (m2 / 2)])) dl=some (.lst [V.int (m2 / 2)]):=aa
         generalize m2 / 2=m3 at u11 k11 |-
         generalize upd G10 dl (.lst [V.int m3])=G11 at u11 k11 |-
         refine⟨_,rfl,_,rfl,.mk dl ow el m3 kb own h.ev rfl k11 (u11 nod kow10) (u11 ned (e210 _ _ (sx _ _ kel))) nod ned (by omega) (by omega) (by omega) (by rw[ho.ln];decide) fun db m4 sdb dtb G12 sx12 k12 ndb kdb pr12 hsb hsib=>?_⟩
         have kde12:=sx12 _ _ (u11 ndd k10) ndd
         have hdb:dtb.length=sdb.length:=by rw[Ax pr12]
         refine⟨de,db,_,_,rfl,rfl,kde12,kdb,bi (by rw[Ad,Ad,Ag,AK];omega),?_⟩
         have tG:∀{b:Addr} {vs:List V},G12 b=some (.tup vs)->(upd G12 de (.lst ((dts++[tc]).map V.ref++dtb.map V.ref))) b=some (.tup vs):=fun {b vs} hb=>by rw[ae (fun y=>by rw[y,kde12] at hb;cases hb)];exact hb
         have t12:∀{b:Addr} {vs:List V},G9 b=some (.tup vs)->G12 b=some (.tup vs):=fun {b vs} hb=>by
           have y:=t10 hb
           have nb:b≠dl:=fun z=>by rw[z,kdl10] at y;cases y
           exact sx12 _ _ (u11 nb y) nb
         refine fin _ ((sds.map fun d=>Cd.set d.1 d.2)++[Cd.call into h'.x ws]++(sdb.map fun d=>Cd.set d.1 d.2)) (dts++[tc]++dtb) _ _ (fun b o hb=>?_) ?_ ?_ ?_ ?_ ?_ ?_
         . rw[ae (aj hb nde2)]
           exact sx12 _ _ (u11 (aj hb ndl2) (e210 _ _ hb)) (aj hb ndl2)
         . rw[aa,<- Az]
         . refine Paired.app (Paired.app (Paired.mapP pr7 fun t d z=>z.keepT fun b vs hb=>tG (t12 (e79 _ _ hb))) (.cons ⟨v,tG (t12 k9),tG (t12 (s9 _ _ k8))⟩ .nil)) (Paired.mapP (sdPl pr12) fun t d z=>z.keepT fun b vs hb=>tG hb)
         . intro d hd
           rcases Al.mp hd with z|z
           . rcases Al.mp z with z|z
             . exact sdOk hsi d z
             . rw[As.mp z];exact⟨i1,hxm',by omega,win⟩
           . exact sdOk hsib d z
         . rw[Ag,Ag,Ad,Ad,AK];omega
         . rw[CI,CI,sdNo,sdNo];exact Aj 1
         . intro x n ws' hd
           rcases Al.mp hd with z|z
           . rcases Al.mp z with z|z
             . obtain⟨y,_,e⟩:=A9.mp z;cases e
             . have e:=As.mp z
               cases e
               exact⟨h',hh',rfl,wl,i2⟩
           . obtain⟨y,_,e⟩:=A9.mp z;cases e
       refine⟨_,rfl,_,rfl,_,_,rfl,rfl,hl,_,_,.ref th',rfl,rfl,SqL.of (k17 khl),hat',th',_,2,_,rfl,rfl,SqT.of (k17 kth'),rfl,rfl,_,rfl,iteB (fun c=>?_) (fun c=>?_)⟩
       . exact rest "" (.inl rfl) (.inl rfl)
       . exact rest wx (.inr (owm _ hwx)) (.inr fun z=>by rw[z] at c;exact absurd c (by decide +kernel))
   . refine fin H6 (sds.map fun d=>Cd.set d.1 d.2) dts _ _ e26 kde (sdPl pr6) (sdOk hsi) (by rw[Ad,hsl];omega) (by rw[sdNo];decide) fun x n ws hd=>?_
     obtain⟨y,_,e⟩:=A9.mp hd
     cases e
 . rintro σ H2 ⟨ts,cps,z5,z6,z7,z8,z9,z10,z11,z12,z13,z14,rfl,sx,kl,prd,hcl,hgd⟩
   refine hD3 _ _ ?_
   have ek:cps.length=k:=by rw[hcl];omega
   refine⟨_,rfl,q l ts cps H2 (e1.trans sx) (e1.free hll) kl (Paired.mapP prd fun t c z=>z.same dk) ek ⟨fun c hc=>?_,fun j c hj x n ws hd=>?_,?_⟩⟩
   . obtain⟨j,hj⟩:=Hl hc
     exact (hgd j c hj).1
   . obtain⟨h',g1,g2,g3,g4⟩:=(hgd j c hj).2.2 x n ws hd
     have hjl:=(Ao.mp g1).1
     obtain⟨c',hc'⟩:∃c',cps[j+1]? = some c':=⟨_,Af (by omega)⟩
     obtain⟨h'',y1,y2,y3,y4⟩:=(hgd _ _ hc').2.1
     rw[g1] at y1
     cases y1
     exact⟨c',hc',by rw[g2,y2],by rw[g3,y3],by rw[y4];exact g4⟩
   . have e:cps.map (·.name)=hs.map (·.x):=by
       refine Ib fun j=>?_
       rw[Ai,Ai]
       rcases EC j k with z|z
       . obtain⟨c,hc⟩:∃c,cps[j]? = some c:=⟨_,Af (by omega)⟩
         obtain⟨h',y1,y2,_⟩:=(hgd _ _ hc).2.1
         rw[hc,y1]
         show some c.name=some h'.x
         rw[y2]
       . rw[Bt (by omega),Bt (by omega)];rfl
     rw[e,hxk]
     exact hn.sublist (CQ _ _)
end K52
namespace L2
open PySem PySem.Spec
theorem a8h {a:Addr}{od:Obj}{kvs:List (Key×V)}:JSeq (Itk a od kvs) (fun H=>H a=some (.frz od (.dK kvs))) (kvs.map fun kv=>kV kv.1) where
 go:=fun i H h hi=>⟨h,by rw[Ad] at hi;exact hi⟩
 stop:=fun i H h hi=>⟨h,by rw[Ad] at hi;exact hi⟩
 yld:=fun i H x H' _ h y=>y
 stay:=fun H H' h e=>e _ _ h
inductive rSortS (K:Ab) (vs:List V) (H:Hp) (Q:VK):Prop
 | mk (a:Addr) (ss:List Str) (h0:vs=[.ref a]) (h1:SqL K H a (ss.map V.str)) (h2:ss.length<64) (q:∀p zs,H p=none->zs.Perm ss->DK zs=true->Q (.ref p) (upd H p (.lst (zs.map V.str)))):rSortS K vs H Q
theorem a1m {X:Cx}{K:Ab}(hK:X.K=K):c7 X (.builtin "sorted") (rSortS K):=by
 subst hK
 intro pins s σ H vs us Q I r h
 obtain⟨a,ss,h0,h1,h2,q⟩:=h
 exact q8 pins s σ H vs us Q I r ⟨a,ss,h0,h1,h2,q⟩
inductive rIsTX (K:Ab) (vs:List V) (H:Hp) (Q:VK):Prop
 | str (z:Str) (h0:vs=[.str z,.ty "tuple"]) (q:Q (.bl false) H):rIsTX K vs H Q
 | tup (a:Addr) (ys:List V) (h0:vs=[.ref a,.ty "tuple"]) (h1:SqT K H a ys) (q:Q (.bl true) H):rIsTX K vs H Q
theorem ug {X:Cx}{K:Ab}(hK:X.K=K):c7 X (.builtin "isinstance") (rIsTX K):=by
 subst hK
 intro pins s σ H xs us Q I r h
 rcases h with⟨z,rfl,q⟩|⟨a,ys,rfl,hq,q⟩
 . cases r with
   | cons r1 r =>
     cases r with
     | cons r2 r =>
       cases r
       obtain⟨t,rfl⟩:=r1
       cases r2
       exact IsiPair.str_tuple ⟨.bl false,H,I.tok _,rfl,q⟩
 . exact rf pins s σ H _ us Q I r ⟨a,ys,rfl,hq,q⟩
theorem ab7 {X:Cx}{K:Ab}(h:X.K=K):SlR X (a0v K):=by subst h;exact gt
theorem a9d {X:Cx}{K:Ab}(h:X.K=K):OpR X (binaryOp .Add) (a4a K):=by subst h;exact wm
end L2
namespace K52
open PySem PySem.Spec L2 Mir
variable {P:Program}{w:World}{K:Ab}{mg:Str->Option Value}{base:Heap}{f g gS gN gA gW gI gL gF gO gT gB C fI CM CF fJ gD gR gU gM gH gE gC gK gX gP:Addr}{fd gd dS dN dA dW dI dL dF dO dT dB dD dR dU dM dH dE dC dK dX dP:FuncData}
noncomputable abbrev a1l:Stmt:=top 41
noncomputable def dg:Cd->List Str
 | .set x e=>[x,e]
 | .call x _ ws=>x::ws
noncomputable def gn (c:Cp):List Str:=c.ps++[c.res]++c.ds.flatMap dg
theorem a7z (S:List Str):(bK S).map (fun kv=>kV kv.1)=S.map V.str:=by unfold bK;rw[BO];rfl
theorem a08 {S:List Str}{x:Str}(h:S.Nodup):(addL S x).Nodup:=by
 unfold addL
 split
 . exact h
 . rename_i hn
   exact CS.mpr ⟨h,FR _ _,fun y hy z hz e=>hn (by rw[<- As.mp hz,<- e];exact hy)⟩
theorem a5i {S:List Str}{x:Str}:(addL S x).length<=S.length+1:=by
 unfold addL;split
 . omega
 . rw[Ag,AK];omega
theorem er {α:Type}{l:List α}{i:Nat}{x:α}(h:l[i]? = some x):l.take (i+1)=l.take i++[x]:=by rw[List.take_succ,h];rfl
theorem w8:∀{S xs:List Str},S.Nodup->(∀y∈S,y∈xs)->S.length<=xs.length:=fun hn h=>Bg hn h
structure FD (H0 H:Hp) (fd:Addr) (S ws:List Str):Prop where
 e:Same H0 H
 k:H fd=some (.dK (bK S))
 nd:S.Nodup
 mem:∀y,y∈S↔y∈ws
 len:S.length<=ws.length
theorem FD.put {H0 H:Hp}{fd:Addr}{S ws:List Str}{y:Str}(h:FD H0 H fd S ws) (n:H0 fd=none):FD H0 (upd H fd (.dK (bK (addL S y)))) fd (addL S y) (ws++[y]):=by
 refine⟨fun b o z=>by rw[ae (aj z n)];exact h.e _ _ z,aa,a08 h.nd,fun z=>by rw[a57,h.mem,Al,As],?_⟩
 rw[Ag,AK]
 exact A0 a5i (IB h.len)
theorem FD.same {H0 H H':Hp}{fd:Addr}{S ws:List Str}(h:FD H0 H fd S ws) (e:Same H H'):FD H0 H' fd S ws:=⟨h.e.trans e,e _ _ h.k,h.nd,h.mem,h.len⟩
theorem pi {K:Ab}{H:Hp}{d b:Addr}{kvs kvs':List (Key×V)}{zs:List V}(hd:H d=some (.dK kvs)) (h:SqT K H b zs):SqT K (upd H d (.dK kvs')) b zs:=jc h fun o h1 _ h3 _=>by rw[ae (fun z=>by rw[z,hd] at h1;cases h1;exact h3 _ rfl)];exact h1
noncomputable def jz (y:Str):Bool:=(!decide (V.str y=V.str "")) && (!decide (V.str y=V.str "nil"))
theorem a2y {y:Str}:jz y=true↔y ≠ "" /\ y ≠ "nil" := by
 unfold jz
 rw[BR,Ik,Ik,decide_eq_false_iff_not,decide_eq_false_iff_not]
 exact⟨fun⟨a,b⟩=>⟨fun z=>a (by rw[z]),fun z=>b (by rw[z])⟩,fun⟨a,b⟩=>⟨fun z=>a (V.str.inj z),fun z=>b (V.str.inj z)⟩⟩
theorem jg {xs:List Str}{c:Cp}(h:CpOk xs c) {y:Str}(hy:y∈gn c):y = "" \/ y = "nil" \/ y∈xs:=by
 have k:∀{w:Str},w∈xs++[("nil" : Str)]->w = "" \/ w = "nil" \/ w∈xs:=fun hw=>(Al.mp hw).elim (fun z=>.inr (.inr z)) fun z=>.inr (.inl (As.mp z))
 unfold gn at hy
 rcases Al.mp hy with z|z
 . rcases Al.mp z with z|z
   . exact .inr (.inr (h.px y z))
   . rw[As.mp z];exact h.res.imp id .inr
 . obtain⟨d,hd,z⟩:=Dg.mp z
   have ok:=h.ds d hd
   cases d with
   | set x e =>
     have z':y∈[x,e]:=z
     simp only[Aq,AE,or_false] at z'
     rcases z' with rfl|rfl
     . exact .inr (.inr ok.1)
     . exact k ok.2
   | call x c' ws =>
     have z':y∈x::ws:=z
     rcases Aq.mp z' with rfl|z'
     . exact ok.1.imp id .inr
     . exact k (ok.2.2.2 y z')
theorem a0c {xs:List Str}{d:Cd}(h:CdOk xs d):(dg d).length<=5:=by
 cases d with
 | set x e=>exact (by decide:2<=5)
 | call x c ws=>show ws.length+1<=5;have:=h.2.2.1;omega
theorem t9 {xs:List Str}:∀{ds:List Cd},(∀d∈ds,CdOk xs d)->(ds.flatMap dg).length<=5*ds.length
 | [],_=>Aj _
 | d::ds,h=>by
   rw[Il,Ag,AD]
   have:=a0c (h d Ah)
   have:=t9 fun e he=>h e (An _ he)
   omega
inductive spSaid (K:Ab) (vs:List V) (H:Hp) (Q:VK) (E:XK):Prop
 | mk (t:Addr) (c:Cp) (xs:List Str) (h0:vs=[.ref t]) (h1:PrcAt K H [30] t (prcC c)) (h2:CpOk xs c) (h3:xs.length=6) (q:∀zl zs H',Same H H'->H zl=none->H' zl=some (.lst ((zs:List Str).map V.str))->zs.Nodup->(∀y,y∈zs↔y ≠ "" /\ y ≠ "nil" /\ y∈gn c)->Q (.ref zl) H'):spSaid K vs H Q E
theorem ip {K:Ab}{H:Hp}{l:Addr}{ds:List Cd}(h:ListX K H [30] l (ds.map fun d=>Deed.plain (plC d))):∃ts,H l=some (.lst (ts.map V.ref))/\Paired (fun t d=>PlAt H t (plC d)) ts ds:=by
 obtain⟨ts,h1,h2,h3⟩:=h
 refine⟨ts,h1,?_⟩
 clear h1 h3
 induction ds generalizing ts with
 | nil=>cases h2;exact .nil
 | cons d ds ih =>
   cases h2 with
   | cons a r =>
     refine .cons ?_ (ih _ r)
     cases a with
     | plain p h1 h2=>exact h1
theorem scSaid:FnScope ["_law_procedure","_law_found","_law_name","_law_deed","_law_one"] ["_law_procedure"] (aq a1l):=⟨rfl,rfl,rfl,by decide +kernel,rfl,by decide +kernel,by decide +kernel⟩
theorem a87 (C:Con K mg w) (F:Fun K "_law_said" "_law_said" a1l f fd):FnOk P w K mg base CX0 1 f fd ["_law_procedure"] (spSaid K):=by
 refine F.okQ scSaid (fun vs H Q E h=>?_) (fun cdv A outer s0 H vs Q E hr h=>?_)
 . obtain⟨_,_,_,rfl,_⟩:=h;rfl
 obtain⟨t,c,xs,rfl,hpc,hco,hx6,q⟩:=h
 have nd:=scSaid.nd
 have hu1:=dw hr
 refine⟨_,af (aw (i:=1) nd rfl (Or.inl rfl) jw)
   (af (c8 AM rfl (mn (K:=K) rfl (ax (a9d (K:=K) rfl) (ah (ixTK (K:=K) rfl) (qv 0) ac (fun _ _=>rfl)) (fe (av (ah (ixTK (K:=K) rfl) (qv 0) ac (fun _ _=>rfl)) ad)))) (b8 (i:=2) nd rfl (Or.inl rfl)) (ai (cm hu1 (qv 1) (qv 2) ib)))
   (af (c8 AM rfl (vp (K:=K) rfl (ah (ixTK (K:=K) rfl) (qv 0) ac (fun _ _=>rfl))) (b8 (i:=3) nd rfl (Or.inl rfl)) (af (cm hu1 (qv 1) (ah (ixTK (K:=K) rfl) (qv 3) ac (fun _ _=>rfl)) ib)
   (ai (c8 AM rfl (mn (K:=K) rfl (c4 (ab7 (K:=K) rfl) (qv 3) (cb ac) ca)) (b8 (i:=2) nd rfl (Or.inl rfl)) (ai (bf (ir (bc (ug (K:=K) rfl) rfl C.isi CC (ak (qv 2) (ak ⟨gty C.tuple Dl⟩ ad)))) (ai (c8 AM rfl (mn (K:=K) rfl (qv 2)) (b8 (i:=4) nd rfl (Or.inl rfl)) (ai (cm hu1 (qv 1) (qv 4) ib)))) (ai (bf (ay bp (ah (ixTK (K:=K) rfl) (qv 3) ac (fun _ _=>rfl)) b6 (az _)) (ai (cm hu1 (qv 1) (qv 2) ib)) bo))))))))
   (ai (b0 (bc (a1m (K:=K) rfl) rfl C.sorted Ea (cg (a7j (im (wv (qv 1)) (fun _ _ _ _=>(sd (QW.qt (jf (ay kx (qv 0) b6 (az _)) (ik (ay kx (qv 0) b6 (az _))))))) (fun _ _ _ _=>(qv 0)))) ad)))))),?_⟩
 obtain⟨pt,t1,t2,f1,p1,f2,p2,bd,px⟩:=hpc
 obtain⟨dts,kbd,prd⟩:=ip px.body
 have ktup:H t=some (.tup [.str c.name,.ref pt,.str c.res,.ref t1,.ref t2,.ref bd]):=px.tup
 have kpt:H pt=some (.tup (c.ps.map V.str)):=px.pt
 have hdl:=Ax prd
 have cl4:=hco.len
 have pl4:=hco.pl
 have lenOk:∀{S ws:List Str} {G:Hp} {fd0:Addr},FD H G fd0 S ws->ws.length<=100->(bK S).length<1000:=fun h hl=>by unfold bK;rw[Ad];have:=h.len;omega
 refine ao (a:=tAsg _ _) fun D1 hD1 _ _=>?_
 intro fd0 hfd0
 have F1:FD H (upd H fd0 (.dK [])) fd0 [] []:=⟨ag hfd0 _,aa,Gs,fun y=>IR,Aj _⟩
 generalize upd H fd0 (.dK [])=H1 at F1 |-
 refine hD1 [some (.ref t),some (.ref fd0),none,none,none] _ ?_
 clear hD1
 refine ao (a:=tFor _ _ _) fun D2 hD2 _ _=>?_
 refine⟨_,rfl,t,_,1,_,rfl,rfl,SqT.of (F1.e _ _ ktup),rfl,_,rfl,t,_,2,_,rfl,rfl,SqT.of (F1.e _ _ ktup),rfl,(show 1<=sizeLine by decide),fun p hp=>?_⟩
 have s2:=ag hp (.tup [.str c.res])
 have k2:(upd H1 p (.tup [.str c.res])) p=some (.tup [.str c.res]):=aa
 generalize upd H1 p (.tup [.str c.res])=H2 at s2 k2 |-
 have F2:=F1.same s2
 refine⟨pt,p,_,_,rfl,rfl,SqT.of (F2.e _ _ kpt),SqT.of k2,(by rw[Ad];exact A0 (Hk hco.pl 1) (by decide)),fun u H3 s3 hu3=>?_⟩
 have hu3':SqT K H3 u ((c.ps++[c.res]).map V.str):=by rw[Az];exact hu3
 have F3:=F2.same s3
 have hwl:(c.ps++[c.res]).length<=5:=by rw[Ag,AK];omega
 refine⟨u,rfl,⟨_,hu3'⟩,?_⟩
 refine mo (xs:=(c.ps++[c.res]).map V.str) (fun i σ G=>∃(S:List Str) (z2:Option V),σ=[some (.ref t),some (.ref fd0),z2,none,none]/\SqT K G u ((c.ps++[c.res]).map V.str)/\FD H G fd0 S ((c.ps++[c.res]).take i)) ⟨[],none,rfl,hu3',by rw[BL];exact F3⟩ ?_ ?_ ?_
 . rintro i σ G hi ⟨S,z2,rfl,hu,F⟩
   exact hu
 . rintro i x σ G hx ⟨S,z2,rfl,hu,F⟩
   rw[Ai] at hx
   obtain⟨y,hy,rfl⟩:=AR.mp hx
   refine⟨_,rfl,_,rfl,fd0,_,rfl,DPut.k (k:=Sum.inr y) F.k (bu (Bw (lenOk F (by rw[AG];omega)))),?_⟩
   rw[mi]
   refine⟨addL S y,_,rfl,pi F.k hu,?_⟩
   rw[er hy];exact F.put hfd0
 rintro σ G ⟨S,z2,rfl,hu,F⟩
 refine hD2 _ _ ?_
 clear hD2 hu F1 F2 F3 hu3 hu3' s2 s3 k2 hp
 rw[Ad,Bv] at F
 refine ao (a:=tFor _ _ _) fun D3 hD3 _ _=>?_
 refine⟨_,rfl,t,_,5,_,rfl,rfl,SqT.of (F.e _ _ ktup),rfl,bd,rfl,⟨_,SqL.of (F.e _ _ kbd)⟩,?_⟩
 refine gw (xs:=dts.map V.ref) (fun i σ G=>∃(S:List Str) (z2 z3 z4:Option V),σ=[some (.ref t),some (.ref fd0),z2,z3,z4]/\FD H G fd0 S (c.ps++[c.res]++(c.ds.take i).flatMap dg)) ⟨S,z2,none,none,rfl,by rw[BL,List.flatMap_nil,BP];exact F⟩ ?_ ?_ ?_
 . rintro i σ G2 hi ⟨S,z2,z3,z4,rfl,F⟩
   exact SqL.of (F.e _ _ kbd)
 . rintro i x σ G2 hx ⟨S,z2,z3,z4,rfl,F⟩
   rw[Ai] at hx
   obtain⟨td,htd,rfl⟩:=AR.mp hx
   have hit:=(Ao.mp htd).1
   obtain⟨d,hd⟩:∃d,c.ds[i]? = some d:=⟨_,Af (by omega)⟩
   have pd:PlAt H td (plC d):=Paired.at2 (F:=fun t d=>PlAt H t (plC d)) prd htd hd
   have dok:=hco.ds d (Ar hd)
   generalize hpre:c.ps++[c.res]++(c.ds.take i).flatMap dg=pre at F
   have prel:pre.length<=30:=by
     rw[<- hpre,Ag]
     have:=t9 (xs:=xs) (ds:=c.ds.take i) fun d hd=>hco.ds d (BU hd)
     rw[AG] at this
     omega
   have done:∀{G:Hp} {S:List Str} (z2 z3 z4:Option V),FD H G fd0 S (pre++dg d)->∃(S:List Str) (z2' z3' z4':Option V),([some (.ref t),some (.ref fd0),z2,z3,z4]:St)=[some (.ref t),some (.ref fd0),z2',z3',z4']/\FD H G fd0 S (c.ps++[c.res]++(c.ds.take (i+1)).flatMap dg):=fun {G S} z2 z3 z4 h=>⟨S,z2,z3,z4,rfl,by rw[er hd,EG,List.flatMap_singleton,<- Ci,hpre];exact h⟩
   refine ao (a:=ut _ _ _) fun D4 hD4 _ _=>?_
   cases d with
   | set x e =>
     have pd':H td=some (.tup [.str "set",.str x,.str e]):=pd
     refine⟨_,rfl,_,rfl,td,_,1,_,rfl,rfl,SqT.of (F.e _ _ pd'),rfl,fd0,_,rfl,DPut.k (k:=Sum.inr x) F.k (bu (Bw (lenOk F (by omega)))),?_⟩
     rw[mi]
     have F4:=F.put (y:=x) hfd0
     generalize upd G2 fd0 (.dK (bK (addL S x)))=G4 at F4 |-
     refine hD4 [some (.ref t),some (.ref fd0),z2,some (.ref td),z4] _ ?_
     clear hD4
     refine⟨_,rfl,_,rfl,td,_,rfl,SqT.of (F4.e _ _ pd'),fun p5 G5 s5 hp5=>?_⟩
     have hp5':SqT K G5 p5 [.str e]:=hp5
     have F5:=F4.same s5
     refine⟨p5,rfl,⟨_,hp5'⟩,?_⟩
     refine mo (xs:=[.str e]) (fun j σ G=>∃(S:List Str) (z2 z4:Option V),σ=[some (.ref t),some (.ref fd0),z2,some (.ref td),z4]/\SqT K G p5 [.str e]/\FD H G fd0 S (pre++[x]++[e].take j)) ⟨_,z2,z4,rfl,hp5',by rw[BL,BP];exact F5⟩ ?_ ?_ ?_
     . rintro j σ G hj ⟨S,z2,z4,rfl,hu,F⟩
       exact hu
     . rintro j v σ G hv ⟨S,z2,z4,rfl,hu,F⟩
       have ej:j=0:=by
         have:=(Ao.mp hv).1
         simp at this;exact this
       subst ej
       cases hv
       refine⟨_,rfl,.str e rfl ⟨_,rfl,iteB (fun c=>by cases c) (fun _=>?_)⟩⟩
       refine⟨_,rfl,td,_,0,_,rfl,rfl,SqT.of (F.e _ _ pd'),at0,rfl,_,rfl,iteB (fun _=>?_) (fun c=>absurd c (by simp))⟩
       refine⟨_,rfl,_,rfl,fd0,_,rfl,DPut.k (k:=Sum.inr e) F.k (bu (Bw (lenOk F (by rw[BL,BP,Ag,AK];omega)))),?_⟩
       rw[mi]
       refine⟨addL S e,_,_,rfl,pi F.k hu,?_⟩
       rw[BL,BP] at F
       exact F.put hfd0
     . rintro σ G ⟨S,z2,z4,rfl,hu,F⟩
       refine done _ _ _ (S:=S) ?_
       have e':pre++[x]++[e].take ([V.str e].length)=pre++dg (.set x e):=by rw[Ci];rfl
       rw[e'] at F;exact F
   | call x c' ws =>
     obtain⟨v,pd',pv⟩:=pd
     have pd':H td=some (.tup [.str "call",.str x,.str c',.ref v]):=pd'
     refine⟨_,rfl,_,rfl,td,_,1,_,rfl,rfl,SqT.of (F.e _ _ pd'),rfl,fd0,_,rfl,DPut.k (k:=Sum.inr x) F.k (bu (Bw (lenOk F (by omega)))),?_⟩
     rw[mi]
     have F4:=F.put (y:=x) hfd0
     generalize upd G2 fd0 (.dK (bK (addL S x)))=G4 at F4 |-
     refine hD4 [some (.ref t),some (.ref fd0),z2,some (.ref td),z4] _ ?_
     clear hD4
     refine⟨_,rfl,_,rfl,td,_,rfl,SqT.of (F4.e _ _ pd'),fun p5 G5 s5 hp5=>?_⟩
     have hp5':SqT K G5 p5 [.str c',.ref v]:=hp5
     have F5:=F4.same s5
     have wl4:ws.length<=4:=dok.2.2.1
     refine⟨p5,rfl,⟨_,hp5'⟩,?_⟩
     refine mo (xs:=[.str c',.ref v]) (fun j σ G=>∃(S:List Str) (z2 z4:Option V),σ=[some (.ref t),some (.ref fd0),z2,some (.ref td),z4]/\SqT K G p5 [.str c',.ref v]/\FD H G fd0 S (pre++[x]++(if j=2 then ws else []))) ⟨_,z2,z4,rfl,hp5',by rw[if_neg (by decide),BP];exact F5⟩ ?_ ?_ ?_
     . rintro j σ G hj ⟨S,z2,z4,rfl,hu,F⟩
       exact hu
     . rintro j y σ G hv ⟨S,z2,z4,rfl,hu,F⟩
       have hj2:j<2:=(Ao.mp hv).1
       rw[if_neg (by omega),BP] at F
       cases j with
       | zero =>
         cases hv
         refine⟨_,rfl,.str c' rfl ⟨_,rfl,iteB (fun c=>by cases c) (fun _=>?_)⟩⟩
         refine⟨_,rfl,td,_,0,_,rfl,rfl,SqT.of (F.e _ _ pd'),at0,rfl,_,rfl,iteB (fun c=>absurd (V.str.inj (of_decide_eq_true c)) (by decide +kernel)) (fun _=>?_)⟩
         exact⟨S,_,_,rfl,hu,by rw[if_neg (by decide),BP];exact F⟩
       | succ j =>
         have ej:j=0:=by omega
         subst ej
         cases hv
         refine⟨_,rfl,.tup v _ rfl (SqT.of (F.e _ _ pv)) ⟨_,rfl,iteB (fun _=>?_) (fun c=>by cases c)⟩⟩
         refine⟨_,rfl,v,rfl,⟨_,SqT.of (F.e _ _ pv)⟩,?_⟩
         refine mo (xs:=ws.map V.str) (fun j σ G=>∃(S:List Str) (z2 z4:Option V),σ=[some (.ref t),some (.ref fd0),z2,some (.ref td),z4]/\SqT K G p5 [.str c',.ref v]/\FD H G fd0 S (pre++[x]++ws.take j)) ⟨S,_,_,rfl,hu,by rw[BL,BP];exact F⟩ ?_ ?_ ?_
         . rintro j σ G hj ⟨S,z2,z4,rfl,hu,F⟩
           exact SqT.of (F.e _ _ pv)
         . rintro j y σ G hx ⟨S,z2,z4,rfl,hu,F⟩
           rw[Ai] at hx
           obtain⟨y,hy,rfl⟩:=AR.mp hx
           refine⟨_,rfl,_,rfl,fd0,_,rfl,DPut.k (k:=Sum.inr y) F.k (bu (Bw (lenOk F (by rw[Ag,Ag,AK,AG];omega)))),?_⟩
           rw[mi]
           refine⟨addL S y,_,_,rfl,pi F.k hu,?_⟩
           rw[er hy,<- Ci];exact F.put hfd0
         . rintro σ G ⟨S,z2,z4,rfl,hu,F⟩
           refine⟨S,_,_,rfl,hu,?_⟩
           rw[if_pos rfl]
           rw[Ad,Bv] at F;exact F
     . rintro σ G ⟨S,z2,z4,rfl,hu,F⟩
       refine done _ _ _ (S:=S) ?_
       have F':FD H G fd0 S (pre++[x]++ws):=F
       rw[Ci] at F';exact F'
 rintro σ G2 ⟨S,z2,z3,z4,rfl,F⟩
 refine hD3 _ _ ?_
 clear hD3
 rw[Ad,hdl,Bv] at F
 change FD H G2 fd0 S (gn c) at F
 have hSl:S.length<=8:=by
   have:S.length<=(xs++([("" : Str),"nil"]:List Str)).length:=w8 F.nd fun y hy=>by
     rcases jg hco ((F.mem y).mp hy) with z|z|z
     . rw[z];simp
     . rw[z];simp
     . exact Ct _ z
   rw[Ag,hx6] at this
   exact this
 refine⟨_,rfl,fd0,_,rfl,F.k,fun od nf=>?_⟩
 have hJ:JSeq (Itk fd0 od (bK S)) (fun H=>H fd0=some (.frz od (.dK (bK S)))) (S.map V.str):=by rw[<- a7z];exact a8h
 refine r8 S jz hJ aa (by omega) (fun n hn G3 e3 Q' q'=>?_) (fun n G3 Q' q'=>⟨_,rfl,q'⟩) fun D G3 hD e3 hd3=>?_
 . have a1:=q' G3 (Same.refl _)
   unfold jz at a1
   refine⟨_,rfl,rfl,_,rfl,iteB (fun c=>⟨_,rfl,rfl,_,rfl,?_⟩) (fun c=>?_)⟩
   . rw[c,IY] at a1;exact a1
   . rw[c,EI] at a1;exact a1
 have hfd:G3 fd0=some (.frz od (.dK (bK S))):=e3 _ _ aa
 have nD:D≠fd0:=fun z=>by rw[z,aa] at hD;cases hD
 have hmem:∀y,y∈S.filter jz↔y ≠ "" /\ y ≠ "nil" /\ y∈gn c:=fun y=>by
   rw[Dm,a2y,F.mem]
   exact⟨fun⟨a,b,c⟩=>⟨b,c,a⟩,fun⟨b,c,a⟩=>⟨a,b,c⟩⟩
 have hnd:(S.filter jz).Nodup:=F.nd.filter _
 have hle:(S.filter jz).length<=8:=A0 (BN _ _) hSl
 have e4:Same H (upd G3 fd0 (.dK (bK S))):=fun b u z=>by
   have nb:b≠fd0:=aj z hfd0
   rw[ae nb]
   exact e3 _ _ (by rw[ae nb];exact F.e _ _ z)
 refine⟨fd0,od,.dK (bK S),hfd,nf,.mk D _ rfl (SqL.of (by rw[ae nD];exact hd3)) (by omega) fun zp zs hz pm so=>q zp zs _ (e4.trans (ag hz _)) (e4.free hz) aa (pm.nodup_iff.mpr hnd) fun y=>(pm.mem_iff).trans (hmem y)⟩
end K52
namespace L2
open PySem PySem.Spec PyProof.Rows
section
variable {prog:Program}{w:World}{A:Around}{E:Value->Shared->Prop}{s:Shared}
theorem qo {it t:Addr}{items:Array Value}(hne:t≠it):∀(n i:Nat) (s:Shared) (Q:List Value->Shared->Prop),s.heap.IsListIter it t i->s.heap.IsList t items->i+n<=items.size->
   (∀h',h'.IsListIter it t (i+n)->Ck it s.heap h'->Q ((items.toList.drop i).take n) { s with heap:=h' })->wpAny (model prog w) A (draw (.ref it) n) Q E s
 | 0,i,s,Q,hit,_,_,hQ=>by
   show wpAny _ _ (pure []) Q E s
   exact Ae (by simpa using hQ s.heap hit (HW ..))
 | n+1,i,s,Q,hit,ht,hle,hQ=>by
   have hlt:i<items.size:=by omega
   show wpAny _ _ (pyNext (.ref it) >>= _) Q E s
   refine Aa (El hit ht (x:=items[i]) (by simp[hlt]) fun h₁ hit₁ hs₁=>?_)
   refine Aa (AS (qo hne n (i+1) _ _ hit₁ (ht.extBut hs₁.extBut hne) (by omega) fun h₂ hit₂ hs₂=>Ae ?_))
   have hd:items.toList.drop i=items[i]::items.toList.drop (i+1):=by simp[DS,hlt]
   have:=hQ h₂ (by rw[show i+(n+1)=i+1+n by omega];exact hit₂) (hs₁.trans hs₂)
   rw[hd,List.take_succ_cons] at this
   exact this
theorem o9 {t:Addr}{items:Array Value}{Q:List Value->Shared->Prop}(hh:A.handled=none) (ht:s.heap.IsList t items)
   (hQ:∀h',Ge s.heap.objs.size s.heap h'->Q items.toList { s with heap:=h' }):wpAny (model prog w) A (unpackItems (.ref t) items.size none) Q E s:=by
 have hlt:t≠s.heap.objs.size:=by obtain⟨o,ho,_⟩:=ht;exact Aw (Ap ho)
 have ht':(s.heap.push { cls:=.type "list_iterator",data:=.fields #[.ref t,.int 0 0] }).IsList t items:=by obtain⟨o,ho,r⟩:=ht;exact⟨o,Ac _ ho,r⟩
 have hty:s.TypeIs (.ref t) "list" := by obtain⟨o,ho,hc,_⟩:=ht;exact⟨o,ho,hc⟩
 unfold unpackItems
 refine Aa ?_
 . unfold notIterableAtAll
   refine Aa (FU hty F.slot_list_iter.lookup ?_)
   refine Ae ?_
   simp only[Bo,if_false]
   refine Aa (AS (Cw ht ?_))
   refine Aa (AS (qo hlt items.size 0 _ _ ⟨_,Ak _ rfl,rfl,rfl⟩ ht' (by omega) fun h₁ hit₁ hs₁=>?_))
   have hall:List.take items.size (List.drop 0 items.toList)=items.toList:=by
     rw[Cr];exact Bm (by simp)
   rw[hall]
   rw[if_neg (by simp)]
   have ht₁:h₁.IsList t items:=ht'.extBut hs₁.extBut hlt
   refine Aa (AS (Eu hh hit₁ ht₁ (by simp) fun h₂ he₂=>?_))
   simp only[Option.isSome_none,Bo,if_false]
   refine Ae (hQ h₂ fun b o hb e=>he₂ b o hb (hs₁.extBut b o hb (Ac _ e)))
theorem lr {env:Env}{elts:List Expr}{x1} {pos:Pos}{t:Addr}{items:Array Value}{Q:Unit->Shared->Prop}(hh:A.handled=none) (ht:s.heap.IsList t items)
   (hn:(assignEach elts env).length=items.size) (hstar:(assignEach elts env).findIdx? (·.1)=none)
   (h:∀h',Ge s.heap.objs.size s.heap h'->wpAny (model prog w) A (assignInOrder ((assignEach elts env).map (·.2)) items.toList) Q E { s with heap:=h' }) :
   wpAny (model prog w) A (assign (.Tuple elts x1 pos) env (.ref t)) Q E s:=by
 rw[assign_Tuple]
 refine Aa (Eo ?_)
 unfold unpack
 rw[hn,hstar]
 exact Aa (AS (o9 hh ht h))
end
section
variable {X:Cx}{pos:Pos}
noncomputable def gLst (K:Ab) (n:Nat) (t:TGs):TG:=fun v σ H Q=>∃a xs,v=.ref a/\SqL K H a xs/\xs.length=n/\t xs σ H Q
theorem a7k {es:List Expr}{k:Nat}{t:TGs}{n:Nat}(hc:X.calm=true) (h:PGs X es t)
   (hn:(assignEach es X.env).length=n:=by rfl) (hst:(assignEach es X.env).findIdx? (·.1)=none:=by rfl):PG X (.Tuple es k pos) (gLst X.K n t):=by
 intro pins s σ H v u Q I r hw
 obtain⟨a,xs,e1,hq,hl,hw⟩:=hw
 subst e1
 cases r
 obtain⟨its,rv,ht,hz⟩:=I.list hq
 refine lr (I.ok.hd hc) ht.isList (by simp[hn,<- hl,rv.length]) hst fun h' hx=>?_
 have I1:Inv X pins σ H { s with heap:=h' }:=I.kept (t':=s.toks) fun b o e=>hx b o (Aw (Ap e)) e
 exact h pins _ σ H xs _ Q I1 (by simpa using rv) hw
theorem yx {K:Ab}(hK:X.K=K) {i j l:Nat}{x y z:Str}{px py pz pos:Pos}{k:Nat}(h1:QG X (.Name x px) (b7 i)) (h2:QG X (.Name y py) (b7 j)) (h3:QG X (.Name z pz) (b7 l)) (hc:X.calm=true:=by rfl)
   (a1:(assignEach [.Name x px,.Name y py,.Name z pz] X.env).map (·.2)=assign (.Name x px) X.env::(assignEach [.Name y py,.Name z pz] X.env).map (·.2):=by rfl) (a2:(assignEach [.Name y py,.Name z pz] X.env).map (·.2)=assign (.Name y py) X.env::(assignEach [.Name z pz] X.env).map (·.2):=by rfl) (a3:(assignEach [.Name z pz] X.env).map (·.2)=assign (.Name z pz) X.env::(assignEach [] X.env).map (·.2):=by rfl)
   (hn:(assignEach [.Name x px,.Name y py,.Name z pz] X.env).length=3:=by rfl) (hst:(assignEach [.Name x px,.Name y py,.Name z pz] X.env).findIdx? (·.1)=none:=by rfl):QG X (.Tuple [.Name x px,.Name y py,.Name z pz] k pos) (gLst K 3 (ga (b7 i) (ga (b7 j) (ga (b7 l) gNil)))):=by
 subst hK
 exact⟨a7k hc (di h1.run (di h2.run (di h3.run ni a3) a2) a1) hn hst⟩
theorem a8a {o i e:Expr}{to ti te:TE}{tget:V->V->Hp->VK->Prop}{tip:TIp}{tset:TSet}{op:Operator}{tpos:Pos}(ho:QE X o to) (hi:QE X i ti) (hg:PGet X tget) (he:QE X e te) (hp:PIp X op tip) (hs:PSet X tset)
   (ha:∀ov iv new,augStore i ov iv new=(do holding [new,ov,iv] (setItem ov iv new);release [new,ov,iv] [];pure .next):=by intros;rfl):QS X (.AugAssign (.Subscript o i tpos) op e pos) (a7a to ti te tget tip tset):=⟨a7y ho.run hi.run hg he.run hp hs ha⟩
inductive rGetL (K:Ab) (o i:V) (H:Hp) (Q:VK):Prop
 | mk (p:Addr) (xs:List V) (j:Nat) (z:V) (h0:o=.ref p) (h1:i=.int (j:Int)) (h2:SqL K H p xs) (h3:xs[j]? = some z) (q:Q z H):rGetL K o i H Q
theorem a2l {K:Ab}(hK:X.K=K):PGet X (rGetL K):=by
 subst hK
 intro pins s σ H o i ov iv Q I ro ri h
 obtain⟨p,xs,j,z,rfl,rfl,hq,hj,q⟩:=h
 cases ro
 obtain⟨t,rfl⟩:=ri
 obtain⟨its,r,pl,hz⟩:=I.list hq
 obtain⟨w,ew,rw'⟩:=r.get hj
 have hl:=r.length
 have hlt:=(Ao.mp hj).1
 have hn:xs.length<2 ^ 63:=AL hz (by decide)
 exact wpAny_getItem_list pl.isList (by omega) (by omega) (by rw[BM];exact ew) ⟨z,H,I,rw',q⟩
end
end L2
namespace K52
open PySem PySem.Spec L2 Mir
variable {P:Program}{w:World}{K:Ab}{mg:Str->Option Value}{base:Heap}{f g gS gN gA gW gI gL gF gO gT gB C fI CM CF fJ gD gR gU gM gH gE gC gK gX gP:Addr}{fd gd dS dN dA dW dI dL dF dO dT dB dD dR dU dM dH dE dC dK dX dP:FuncData}
noncomputable abbrev vc:Stmt:=top 43
theorem a4z {X:Cx}{K:Ab}(hK:X.K=K) {a b:Expr}{ta:TA}{p pos tpos:Pos}{elts:List Expr}{x1} (hg:Gl X "zip") (hm:X.mg "zip" = none) (ha:QA X [a,b] ta) (hs:starEach [a,b] X.env=[(false,eval a X.env),(false,eval b X.env)]:=by rfl) (hs2:starEach [b] X.env=[(false,eval b X.env)]:=by rfl) :
   QI X (.Tuple elts x1 tpos) (.Call (.Name "zip" p) [a,b] [] pos) (a0e K ta):=by subst hK;exact zu hg hm ha hs hs2
abbrev PS:=List (Nat×(Str->Int))
noncomputable def dsOf (cps:List Cp) (i:Nat):List Cd:=((cps[i]?).map (·.ds)).getD []
noncomputable def psOf (cps:List Cp) (i:Nat):List Str:=((cps[i]?).map (·.ps)).getD []
noncomputable def mw (cps:List Cp) (i:Nat):Str:=((cps[i]?).map (·.res)).getD ""
noncomputable def ky:Option Cd->Str
 | some (.call x _ _)=>x
 | _ => ""
noncomputable def gz (cps:List Cp) (i:Nat) (a b:Nat×(Str->Int)):Nat×(Str->Int):=(b.1+1,if ky ((dsOf cps i)[b.1]?) = "" then b.2 else upF b.2 (ky ((dsOf cps i)[b.1]?)) (a.2 (mw cps (i+1))))
noncomputable def unwP (cps:List Cp):Nat->PS->PS
 | n+1,a::b::r=>if (dsOf cps (r.length+1)).length=a.1 then unwP cps n (gz cps r.length a b::r) else a::b::r
 | _,s=>s
noncomputable def dv (cps:List Cp):PS->PS
 | a::r=>match (dsOf cps r.length)[a.1]? with
   | some (.set x e)=>unwP cps (r.length+1) ((a.1+1,upF a.2 x (nilF a.2 e))::r)
   | some (.call _ _ ws)=>unwP cps (r.length+2) ((0,cx (psOf cps (r.length+1)) ws a.2)::a::r)
   | none=>a::r
 | []=>[]
noncomputable def ChainP (cps:List Cp):PS->Prop
 | _::b::r=>(∃x c ws,(dsOf cps r.length)[b.1]? = some (.call x c ws))/\ChainP cps (b::r)
 | _=>True
theorem ChainP.head {cps:List Cp}{a a':Nat×(Str->Int)}{r:PS}(h:ChainP cps (a::r)):ChainP cps (a'::r):=by
 cases r with
 | nil=>trivial
 | cons b r=>exact h
structure Lc where
 ce:Addr
 vd:Addr
 k:Nat
 zs:List Str
 F:Str->Int
noncomputable def abf (cps:List Cp) (i:Nat) (zs:List Str):Prop:=∃c,cps[i]? = some c/\∀y,y∈zs↔y ≠ "" /\ y ≠ "nil" /\ y∈gn c
structure LcAt (X H:Hp) (cps:List Cp) (i:Nat) (c:Lc):Prop where
 xc:X c.ce=none
 xv:X c.vd=none
 hc:H c.ce=some (.lst [.int (i:Int),.int (c.k:Int),.ref c.vd])
 hv:H c.vd=some (.dK (vK c.zs c.F))
 zl:c.zs.length<=8
 zn:c.zs.Nodup
 zm:abf cps i c.zs
noncomputable def LcsAt (X H:Hp) (cps:List Cp):List Lc->Prop
 | []=>True
 | c::r=>LcAt X H cps r.length c/\LcsAt X H cps r
structure LSt (X H:Hp) (cps:List Cp) (cl:Addr) (cs:List Lc):Prop where
 sX:Same X H
 xl:X cl=none
 hcl:H cl=some (.lst ((cs.map fun c=>V.ref c.ce).reverse))
 at_:LcsAt X H cps cs
 ne:cl∉cs.map (·.ce)
 nc:(cs.map (·.ce)).Nodup
 nv:(cs.map (·.vd)).Nodup
noncomputable def absL (cs:List Lc):PS:=cs.map fun c=>(c.k,c.F)
noncomputable def KpL (cl:Addr) (cs:List Lc) (H H':Hp):Prop:=∀b o,H b=some o->b≠cl->b∉cs.map (·.ce)->b∉cs.map (·.vd)->H' b=some o
theorem LcAt.keep {X H H':Hp}{cps:List Cp}{i:Nat}{c:Lc}(h:LcAt X H cps i c) (e1:H' c.ce=H c.ce) (e2:H' c.vd=H c.vd):LcAt X H' cps i c:=⟨h.xc,h.xv,e1.trans h.hc,e2.trans h.hv,h.zl,h.zn,h.zm⟩
theorem LcsAt.keep {X H H':Hp}{cps:List Cp}:∀{cs:List Lc},LcsAt X H cps cs->(∀c∈cs,H' c.ce=H c.ce/\H' c.vd=H c.vd)->LcsAt X H' cps cs
 | [],_,_=>trivial
 | c::r,h,e=>⟨h.1.keep (e c Ah).1 (e c Ah).2,h.2.keep fun d hd=>e d (An _ hd)⟩
theorem LcsAt.mem {X H:Hp}{cps:List Cp}:∀{cs:List Lc},LcsAt X H cps cs->∀c∈cs,∃i,LcAt X H cps i c
 | d::r,h,c,hc=>by
   rcases Aq.mp hc with rfl|hc
   . exact⟨_,h.1⟩
   . exact h.2.mem c hc
theorem LSt.same {X H H':Hp}{cps:List Cp}{cl:Addr}{cs:List Lc}(h:LSt X H cps cl cs) (e:Same H H'):LSt X H' cps cl cs:=⟨h.sX.trans e,h.xl,e _ _ h.hcl,h.at_.keep fun c hc=>by
 obtain⟨i,a⟩:=h.at_.mem c hc
 exact⟨(e _ _ a.hc).trans a.hc.symm,(e _ _ a.hv).trans a.hv.symm⟩,h.ne,h.nc,h.nv⟩
theorem LSt.putV {X H:Hp}{cps:List Cp}{cl:Addr}{c:Lc}{r:List Lc}{F':Str->Int}(h:LSt X H cps cl (c::r)):LSt X (upd H c.vd (.dK (vK c.zs F'))) cps cl ({ c with F:=F' }::r):=by
 have a:=h.at_.1
 have nl:∀{b:Addr} {l:List V},H b=some (.lst l)->b≠c.vd:=fun hb z=>by rw[z,a.hv] at hb;cases hb
 refine⟨fun b o z=>by rw[ae (aj z a.xv)];exact h.sX _ _ z,h.xl,by rw[ae (nl h.hcl)];exact h.hcl,⟨⟨a.xc,a.xv,?_,aa,a.zl,a.zn,a.zm⟩,h.at_.2.keep fun d hd=>?_⟩,h.ne,h.nc,h.nv⟩
 . show (upd H c.vd _) c.ce=_
   rw[ae (nl a.hc)];exact a.hc
 . obtain⟨i,b⟩:=h.at_.2.mem d hd
   have nv:d.vd≠c.vd:=fun z=>(AX.mp h.nv).1 (by have y:=AH (f:=fun x:Lc=>x.vd) hd;rw[z] at y;exact y)
   exact⟨ae (nl b.hc),ae nv⟩
theorem LSt.putK {X H:Hp}{cps:List Cp}{cl:Addr}{c:Lc}{r:List Lc}{k':Nat}(h:LSt X H cps cl (c::r)):LSt X (upd H c.ce (.lst [.int (r.length:Int),.int (k':Int),.ref c.vd])) cps cl ({ c with k:=k' }::r):=by
 have a:=h.at_.1
 have nd:∀{b:Addr} {l:List (Key×V)},H b=some (.dK l)->b≠c.ce:=fun hb z=>by rw[z,a.hc] at hb;cases hb
 refine⟨fun b o z=>by rw[ae (aj z a.xc)];exact h.sX _ _ z,h.xl,by rw[ae (fun z=>h.ne (by rw[z];exact Ah))];exact h.hcl,⟨⟨a.xc,a.xv,aa,?_,a.zl,a.zn,a.zm⟩,h.at_.2.keep fun d hd=>?_⟩,h.ne,h.nc,h.nv⟩
 . show (upd H c.ce _) c.vd=_
   rw[ae (nd a.hv)];exact a.hv
 . obtain⟨i,b⟩:=h.at_.2.mem d hd
   have nv:d.ce≠c.ce:=fun z=>(AX.mp h.nc).1 (by have y:=AH (f:=fun x:Lc=>x.ce) hd;rw[z] at y;exact y)
   exact⟨ae nv,ae (nd b.hv)⟩
theorem LSt.pop {X H:Hp}{cps:List Cp}{cl:Addr}{c:Lc}{r:List Lc}(h:LSt X H cps cl (c::r)):LSt X (upd H cl (.lst ((r.map fun c=>V.ref c.ce).reverse))) cps cl r:=by
 refine⟨fun b o z=>by rw[ae (aj z h.xl)];exact h.sX _ _ z,h.xl,aa,h.at_.2.keep fun d hd=>?_,fun z=>h.ne (An _ z),(AX.mp h.nc).2,(AX.mp h.nv).2⟩
 obtain⟨i,b⟩:=h.at_.2.mem d hd
 exact⟨ae fun z=>h.ne (An _ (by rw[<- z];exact AH hd)),ae fun z=>by have y:=b.hv;rw[z,h.hcl] at y;cases y⟩
theorem LSt.push {X H:Hp}{cps:List Cp}{cl:Addr}{c:Lc}{r:List Lc}(h:LSt X H cps cl r) (a:LcAt X H cps r.length c) (n1:c.ce≠cl) (n2:c.ce∉r.map (·.ce)) (n3:c.vd∉r.map (·.vd)):LSt X (upd H cl (.lst ((r.map fun c=>V.ref c.ce).reverse++[V.ref c.ce]))) cps cl (c::r):=by
 have nd:∀{b:Addr} {l:List (Key×V)},H b=some (.dK l)->b≠cl:=fun hb z=>by rw[z,h.hcl] at hb;cases hb
 refine⟨fun b o z=>by rw[ae (aj z h.xl)];exact h.sX _ _ z,h.xl,by rw[aa,AC,BZ],⟨a.keep (ae n1) (ae (nd a.hv)),h.at_.keep fun d hd=>?_⟩,fun z=>?_,AX.mpr ⟨n2,h.nc⟩,AX.mpr ⟨n3,h.nv⟩⟩
 . obtain⟨i,b⟩:=h.at_.mem d hd
   exact⟨ae fun z=>h.ne (by rw[<- z];exact AH hd),ae (nd b.hv)⟩
 . rcases Aq.mp z with z|z
   . exact n1 z.symm
   . exact h.ne z
theorem a8v {zs:List Str}{x:Str}(h:¬ x∈zs):putK (vK zs fun _=>0) (Sum.inr x) (.int 0)=vK (zs++[x]) fun _=>0:=by
 rw[a3r h]
 congr 1
 funext y
 unfold upF;split<;>rfl
theorem a1x (F:Str->Int):cx [] [] F=fun _=>0:=rfl
theorem zk {y:Str}:∀{l:List (Str×Str)},¬ y∈l.map (·.1)->l.lookup y=none
 | [],_=>rfl
 | (q,v)::l,h=>by
   rw[CA,show (y == q)=false from beq_eq_false_iff_ne.mpr fun z=>h (by rw[z];exact Ah)]
   exact zk fun z=>h (An _ z)
theorem a1a {ps ws:List Str}{p w:Str}{F:Str->Int}(hl:ps.length=ws.length) (hn:¬ p∈ps):cx (ps++[p]) (ws++[w]) F=upF (cx ps ws F) p (nilF F w):=by
 have hz:(ps++[p]).zip (ws++[w])=ps.zip ws++[(p,w)]:=by rw[List.zip_append hl];rfl
 have hm:(ps.zip ws).map (·.1)=ps:=by
   clear hz hn
   induction ps generalizing ws with
   | nil=>rfl
   | cons q ps ih =>
     cases ws with
     | nil=>cases hl
     | cons v ws=>rw[Ds,AC,ih (by simpa using hl)]
 funext y
 show Jk (((ps++[p]).zip (ws++[w])).lookup y) 0 (nilF F)=if y=p then nilF F w else Jk ((ps.zip ws).lookup y) 0 (nilF F)
 rw[hz,List.lookup_append,CA,List.lookup_nil]
 by_cases e:y=p
 . subst e
   rw[zk (by rw[hm];exact hn),if_pos rfl,show (y == y)=true from beq_self_eq_true y];rfl
 . rw[if_neg e,show (y == p)=false from beq_eq_false_iff_ne.mpr e]
   cases (ps.zip ws).lookup y with
   | some v=>rfl
   | none=>rfl
inductive spStepL (K:Ab) (vs:List V) (H:Hp) (Q:VK) (E:XK):Prop
 | mk (X:Hp) (l cl:Addr) (ts:List Addr) (cps:List Cp) (xs:List Str) (c:Lc) (cs:List Lc) (d:Cd) (h0:vs=[.ref l,.ref cl]) (hl:X l=some (.lst (ts.map V.ref))) (hp:Paired (fun t c=>PrcAt K X [30] t (prcC c)) ts cps) (ok:ProgOk xs cps) (hx:∀x∈xs,b9 x=true) (h6:xs.length=6) (h4:cps.length<=4) (hS:LSt X H cps cl (c::cs)) (hd:(dsOf cps cs.length)[c.k]? = some d) (hch:ChainP cps (absL (c::cs)))
     (q:∀H' cs',LSt X H' cps cl cs'->absL cs'=dv cps (absL (c::cs))->KpL cl (c::cs) H H'->(∀b∈cs',(b.ce∈(c::cs).map (·.ce)\/H b.ce=none)/\(b.vd∈(c::cs).map (·.vd)\/H b.vd=none))->Q .non H'):spStepL K vs H Q E
theorem scStepL:FnScope ["_law_program_here","_law_calls","_law_number","_law_k","_law_values","_law_deed","_law_inner","_law_given","_law_name","_law_e","_law_done"] ["_law_program_here","_law_calls"] (aq vc):=⟨rfl,rfl,rfl,by decide +kernel,rfl,by decide +kernel,by decide +kernel⟩
theorem a6j (C:Con K mg w) (F:Fun K "_law_step" "_law_step" vc f fd) (GF:FnOk P w K mg base CX0 1 gF dF ["_law_values","_law_e"] spFull) (cF:Cal K mg "_law_full" gF dF ["_law_values","_law_e"]) (GS:FnOk P w K mg base CX0 1 gS dS ["_law_procedure"] (spSaid K)) (cS:Cal K mg "_law_said" gS dS ["_law_procedure"]):FnOk P w K mg base CX0 2 f fd ["_law_program_here","_law_calls"] (spStepL K):=by
 refine F.okQ scStepL (fun vs H Q E h=>?_) (fun cdv A outer s0 H vs Q E hr h=>?_)
 . obtain⟨_,_,_,_,_,_,_,_,_,rfl,_⟩:=h;rfl
 obtain⟨X,l,cl,ts,cps,xs,c,cs,d,rfl,hl,hp,ok,hx,h6,h4,hS,hd,hch,q⟩:=h
 have nd:=scStepL.nd
 have hu1:=dw hr
 refine⟨_,af (jk (ah (ixK (K:=K) rfl) (qv 1) (c5 bw ac) (fun _ _=>rfl)) (yx (K:=K) rfl (b8 (i:=2) nd rfl (Or.inl rfl)) (b8 (i:=3) nd rfl (Or.inl rfl)) (b8 (i:=4) nd rfl (Or.inl rfl))))
   (af (aw (i:=5) nd rfl (Or.inl rfl) (ah (ixK (K:=K) rfl) (ah (ixTK (K:=K) rfl) (ah (ixK (K:=K) rfl) (qv 0) (qv 2) (fun _ _=>rfl)) ac (fun _ _=>rfl)) (qv 3) (fun _ _=>rfl)))
   (af (bf (ay bp (ah (ixTK (K:=K) rfl) (qv 5) ac (fun _ _=>rfl)) b6 (az _)) (af (cm hu1 (qv 4) (ah (ixTK (K:=K) rfl) (qv 5) ac (fun _ _=>rfl)) (ar GF hr rfl cF.name cF.keep cF.bind .nil ap (ak (qv 4) (av (ah (ixTK (K:=K) rfl) (qv 5) ac (fun _ _=>rfl)) ad))))
   (ai (jk (ax bm (qv 3) ac) (vk (ah (ixK (K:=K) rfl) (qv 1) (c5 bw ac) (fun _ _=>rfl)) ac ld)))) (af (aw (i:=6) nd rfl (Or.inl rfl) (ah (ixK (K:=K) rfl) (qv 0) (ax bm (qv 2) ac) (fun _ _=>rfl)))
   (af (aw (i:=7) nd rfl (Or.inl rfl) jw)
   (af (c8 AM rfl (vp (K:=K) rfl (ar GS hr rfl cS.name cS.keep cS.bind .nil ap (ak (qv 6) ad))) (b8 (i:=8) nd rfl (Or.inl rfl)) (ai (cm hu1 (qv 7) (qv 8) ac)))
   (af (c8 AM rfl (a4z (K:=K) rfl rfl C.zip (av (ah (ixTK (K:=K) rfl) (qv 6) ac (fun _ _=>rfl)) (av (ah (ixTK (K:=K) rfl) (qv 5) ac (fun _ _=>rfl)) ad))) (zx (b8 (i:=8) nd rfl (Or.inl rfl)) (b8 (i:=9) nd rfl (Or.inl rfl))) (ai (cm hu1 (qv 7) (qv 8) (ar GF hr rfl cF.name cF.keep cF.bind .nil ap (ak (qv 4) (ak (qv 9) ad))))))
   (ai (bx (du (K:=K) rfl AW BA BB d0 (qv 1) (mj (fc (ax bm (qv 2) ac) (bj (ak (qv 7) ad))) ad)))))))))
   (ai (kj AM (QW.qt (jf (ay qh (bc (lenK (K:=K) rfl) rfl C.len Bk (ak (qv 1) ad)) ac (az _)) (ik (ay bp (ah (ixK (K:=K) rfl) (ah (ixK (K:=K) rfl) (qv 1) (c5 bw ac) (fun _ _=>rfl)) ac (fun _ _=>rfl)) (bc (lenK (K:=K) rfl) rfl C.len Bk (av (ah (ixTK (K:=K) rfl) (ah (ixK (K:=K) rfl) (qv 0) (ah (ixK (K:=K) rfl) (ah (ixK (K:=K) rfl) (qv 1) (c5 bw ac) (fun _ _=>rfl)) ac (fun _ _=>rfl)) (fun _ _=>rfl)) ac (fun _ _=>rfl)) ad)) (az _))))) (af (aw (i:=10) nd rfl (Or.inl rfl) (a4h AW Hb Hc a3h (qv 1)))
   (af (aw (i:=5) nd rfl (Or.inl rfl) (ah (ixK (K:=K) rfl) (ah (ixTK (K:=K) rfl) (ah (ixK (K:=K) rfl) (qv 0) (ah (ixK (K:=K) rfl) (ah (ixK (K:=K) rfl) (qv 1) (c5 bw ac) (fun _ _=>rfl)) ac (fun _ _=>rfl)) (fun _ _=>rfl)) ac (fun _ _=>rfl)) (ah (ixK (K:=K) rfl) (ah (ixK (K:=K) rfl) (qv 1) (c5 bw ac) (fun _ _=>rfl)) ac (fun _ _=>rfl)) (fun _ _=>rfl)))
   (af (bf (ay kx (ah (ixTK (K:=K) rfl) (qv 5) ac (fun _ _=>rfl)) b6 (az _)) (ai (cm hu1 (ah (ixK (K:=K) rfl) (ah (ixK (K:=K) rfl) (qv 1) (c5 bw ac) (fun _ _=>rfl)) ac (fun _ _=>rfl)) (ah (ixTK (K:=K) rfl) (qv 5) ac (fun _ _=>rfl)) (em hu1 (ah (ixK (K:=K) rfl) (qv 10) ac (fun _ _=>rfl)) (ah (ixTK (K:=K) rfl) (ah (ixK (K:=K) rfl) (qv 0) (ah (ixK (K:=K) rfl) (qv 10) ac (fun _ _=>rfl)) (fun _ _=>rfl)) ac (fun _ _=>rfl)) (fun _ _=>rfl)))) bo)
   (ai (a8a (ah (ixK (K:=K) rfl) (qv 1) (c5 bw ac) (fun _ _=>rfl)) ac (a2l (K:=K) rfl) ac aa1 ld))))))))),?_⟩
 have hlt:=Ax hp
 have proc:∀{i:Nat} {cp:Cp},cps[i]? = some cp->∃t pt t1 t2 bd dts,ts[i]? = some t/\X t=some (.tup [.str cp.name,.ref pt,.str cp.res,.ref t1,.ref t2,.ref bd])/\X pt=some (.tup (cp.ps.map V.str))/\X bd=some (.lst (dts.map V.ref))/\Paired (fun t d=>PlAt X t (plC d)) dts cp.ds/\PrcAt K X [30] t (prcC cp):=fun {i cp} hi=>by
   obtain⟨t,ht⟩:∃t,ts[i]? = some t:=⟨_,Af (by have:=(Ao.mp hi).1;omega)⟩
   have pa:=Paired.at2 (F:=fun t c=>PrcAt K X [30] t (prcC c)) hp ht hi
   obtain⟨pt,t1,t2,f1,p1,f2,p2,bd,px⟩:=id pa
   obtain⟨dts,kbd,prd⟩:=ip px.body
   exact⟨t,pt,t1,t2,bd,dts,ht,px.tup,px.pt,kbd,prd,pa⟩
 have at_i:∀{i:Nat} {t:Addr},ts[i]? = some t->atI (ts.map V.ref) (i:Int)=some (.ref t):=fun ht=>bn (by rw[Ai,ht];rfl)
 have dsN:∀{i:Nat} {cp:Cp},cps[i]? = some cp->dsOf cps i=cp.ds:=fun hi=>by unfold dsOf;rw[hi];rfl
 have lastOf:∀{G:Hp} {a:Lc} {r:List Lc},LSt X G cps cl (a::r)->G cl=some (.lst ((r.map fun c=>V.ref c.ce).reverse++[V.ref a.ce])):=fun h=>by rw[h.hcl,AC,BZ]
 have absN:∀r:List Lc,(absL r).length=r.length:=fun r=>by unfold absL;rw[Ad]
 have inC:∀{G:Hp} {b:Lc},LSt X G cps cl (c::cs)->b∈c::cs->∃i,LcAt X G cps i b:=fun h hb=>h.at_.mem _ hb
 obtain⟨cp,hcp,hzm⟩:=hS.at_.1.zm
 obtain⟨t,pt,t1,t2,bd,dts,ht,kt,kpt,kbd,prd,pa⟩:=proc hcp
 rw[dsN hcp] at hd
 have a0:=hS.at_.1
 obtain⟨td,htd⟩:∃x,dts[c.k]? = some x:=⟨_,Af (by rw[Ax prd];exact (Ao.mp hd).1)⟩
 have pd:PlAt X td (plC d):=Paired.at2 (F:=fun t d=>PlAt X t (plC d)) prd htd hd
 have dmem:=Ar hd
 have cok:=ok.ok cp (Ar hcp)
 have dok:=cok.ds d dmem
 have hasN:∀{y:Str},y∈dg d->y∈xs->y∈c.zs:=fun {y} hy hyx=>(hzm y).mpr ⟨fun z=>by have:=hx y hyx;rw[z] at this;exact absurd this (by decide +kernel),fun z=>by have:=hx y hyx;rw[z] at this;exact absurd this (by decide +kernel),Al.mpr (.inr (Dg.mpr ⟨d,dmem,hy⟩))⟩
 have hasE:∀{y:Str},y∈dg d->y∈xs++[("nil" : Str)]->y∈c.zs++[("nil" : Str)]:=fun hy hyx=>Al.mpr ((Al.mp hyx).imp (hasN hy) id)
 refine ao (a:=tAsg _ _) fun D1 hD1 _ _=>?_
 refine⟨_,rfl,_,rfl,cl,_,_,_,rfl,rfl,SqL.of (lastOf hS),bh,c.ce,_,rfl,SqL.of a0.hc,rfl,_,_,rfl,_,_,rfl,_,_,rfl,rfl,?_⟩
 refine hD1 [some (.ref l),some (.ref cl),some (.int (cs.length:Int)),some (.int (c.k:Int)),some (.ref c.vd),none,none,none,none,none,none] _ ?_
 clear hD1
 refine ao (a:=tAsg _ _) fun D2 hD2 _ _=>?_
 have atd:atI (dts.map V.ref) (c.k:Int)=some (.ref td):=bn (by rw[Ai,htd];rfl)
 refine⟨_,rfl,_,rfl,l,_,_,.ref t,rfl,rfl,SqL.of (hS.sX _ _ hl),at_i ht,t,_,5,_,rfl,rfl,SqT.of (hS.sX _ _ kt),rfl,_,rfl,bd,_,_,.ref td,rfl,rfl,SqL.of (hS.sX _ _ kbd),atd,?_⟩
 refine hD2 [some (.ref l),some (.ref cl),some (.int (cs.length:Int)),some (.int (c.k:Int)),some (.ref c.vd),some (.ref td),none,none,none,none,none] _ ?_
 clear hD2
 refine ao (a:=tIfS _ _ _) fun D3 hD3 _ _=>?_
 have wh:∀(G:Hp) (a:Lc) (r:List Lc) (z2 z3 z4 z5 z6 z7 z8 z9 z10:Option V),LSt X G cps cl (a::r)->ChainP cps (absL (a::r))->unwP cps (r.length+1) (absL (a::r))=dv cps (absL (c::cs))->KpL cl (c::cs) H G->(∀b∈a::r,(b.ce∈(c::cs).map (·.ce)\/H b.ce=none)/\(b.vd∈(c::cs).map (·.vd)\/H b.vd=none))->D3.nx [some (.ref l),some (.ref cl),z2,z3,z4,z5,z6,z7,z8,z9,z10] G:=by
   intro G a r z2 z3 z4 z5 z6 z7 z8 z9 z10 S ch eq kp inn
   refine hD3 _ _ ?_
   refine⟨fun n σ G=>∃(a:Lc) (r:List Lc) (z2 z3 z4 z5 z6 z7 z8 z9 z10:Option V),n=r.length/\σ=[some (.ref l),some (.ref cl),z2,z3,z4,z5,z6,z7,z8,z9,z10]/\LSt X G cps cl (a::r)/\ChainP cps (absL (a::r))/\unwP cps (r.length+1) (absL (a::r))=dv cps (absL (c::cs))/\KpL cl (c::cs) H G/\∀b∈a::r,(b.ce∈(c::cs).map (·.ce)\/H b.ce=none)/\(b.vd∈(c::cs).map (·.vd)\/H b.vd=none),⟨r.length,a,r,z2,z3,z4,z5,z6,z7,z8,z9,z10,rfl,rfl,S,ch,eq,kp,inn⟩,?_⟩
   clear S ch eq kp inn z2 z3 z4 z5 z6 z7 z8 z9 z10
   rintro n σ G ⟨a,r,z2,z3,z4,z5,z6,z7,z8,z9,z10,rfl,rfl,S,ch,eq,kp,inn⟩
   have lenr:((r.map fun c=>V.ref c.ce).reverse++[V.ref a.ce]).length=r.length+1:=by rw[Ag,Dj,Ad];rfl
   have S1:=S.at_.1
   obtain⟨cp1,hcp1,_⟩:=S1.zm
   obtain⟨t',pt',t1',t2',bd',dts',ht',kt',kpt',kbd',prd',_⟩:=proc hcp1
   refine⟨_,rfl,cl,_,rfl,.inl (SqL.of (lastOf S)),_,_,rfl,rfl,_,rfl,iteB (fun c1=>?_) (fun c1=>?_)⟩
   . rw[lenr] at c1
     obtain⟨b,r',rfl⟩:∃b r',r=b::r':=by
       cases r with
       | nil=>exact absurd (of_decide_eq_true c1) (by simp)
       | cons b r'=>exact⟨b,r',rfl⟩
     refine⟨_,rfl,_,rfl,cl,_,_,_,rfl,rfl,SqL.of (lastOf S),bh,a.ce,_,1,_,rfl,rfl,SqL.of S1.hc,rfl,_,rfl,_,rfl,_,rfl,cl,_,_,_,rfl,rfl,SqL.of (lastOf S),bh,a.ce,_,0,_,rfl,rfl,SqL.of S1.hc,at0,l,_,_,.ref t',rfl,rfl,SqL.of (S.sX _ _ hl),at_i ht',t',_,5,_,rfl,rfl,SqT.of (S.sX _ _ kt'),rfl,bd',_,rfl,.inl (SqL.of (S.sX _ _ kbd')),rfl,_,rfl,iteB (fun c2=>?_) (fun c2=>?_)⟩
     . have hk1:a.k=cp1.ds.length:=by
         have:=V.int.inj (of_decide_eq_true c2)
         rw[Ad,Ax prd'] at this
         omega
       obtain⟨⟨x,c0,ws,hcall⟩,ch'⟩:=id ch
       have hcall:(dsOf cps (absL r').length)[b.k]? = some (.call x c0 ws):=hcall
       rw[absN] at hcall
       have hla:((((b::r').map fun c=>V.ref c.ce).reverse++[V.ref a.ce]))[((((b::r').map fun c=>V.ref c.ce).reverse++[V.ref a.ce])).length - 1]? = some (V.ref a.ce):=by
         rw[Ag,AK,HP];exact Fb
       refine⟨fun σ' G'=>∃(b':Lc) (z2 z3 z4 z5 z6 z7 z8 z9 z10:Option V),σ'=[some (.ref l),some (.ref cl),z2,z3,z4,z5,z6,z7,z8,z9,z10]/\LSt X G' cps cl (b'::r')/\(b'.k,b'.F)=gz cps r'.length (a.k,a.F) (b.k,b.F)/\b'.ce=b.ce/\b'.vd=b.vd/\KpL cl (c::cs) H G',fun σ' G' hN=>?_,?_⟩
       . obtain⟨b',z2,z3,z4,z5,z6,z7,z8,z9,z10,rfl,S',eg,e1,e2,kp'⟩:=hN
         refine⟨r'.length,Ce _,b',r',z2,z3,z4,z5,z6,z7,z8,z9,z10,rfl,rfl,S',?_,?_,kp',fun d hd=>?_⟩
         . exact (ch':ChainP cps ((b.k,b.F)::absL r')).head
         . rw[<- eq]
           show unwP cps (r'.length+1) ((b'.k,b'.F)::absL r')=if (dsOf cps ((absL r').length+1)).length=a.k then unwP cps (r'.length+1) (gz cps (absL r').length (a.k,a.F) (b.k,b.F)::absL r') else _
           rw[absN,if_pos (by rw[dsN (show cps[r'.length+1]? = some cp1 from hcp1)];exact hk1.symm),eg]
         . rcases Aq.mp hd with rfl|hd
           . rw[e1,e2];exact inn b (An _ Ah)
           . exact inn d (An _ (An _ hd))
       . refine ao (a:=tAsg _ _) fun E1 hE1 _ _=>?_
         refine⟨_,rfl,.inl ⟨rfl,_,SqL.of (lastOf S)⟩,cl,_,_,rfl,rfl,lastOf S,hla,?_⟩
         rw[Ho]
         have S2:=S.pop
         have nac:a.ce≠cl:=fun z=>S.ne (by rw[<- z];exact Ah)
         have hca:(upd G cl (.lst (((b::r').map fun c=>V.ref c.ce).reverse))) a.ce=some (.lst [.int ((b::r').length:Int),.int (a.k:Int),.ref a.vd]):=by rw[ae nac];exact S1.hc
         have hva:(upd G cl (.lst (((b::r').map fun c=>V.ref c.ce).reverse))) a.vd=some (.dK (vK a.zs a.F)):=by rw[ae (fun z=>by have y:=S1.hv;rw[z,S.hcl] at y;cases y)];exact S1.hv
         have kp2:KpL cl (c::cs) H (upd G cl (.lst (((b::r').map fun c=>V.ref c.ce).reverse))):=fun d o z n1 n2 n3=>by rw[ae n1];exact kp d o z n1 n2 n3
         generalize upd G cl (.lst (((b::r').map fun c=>V.ref c.ce).reverse))=G2 at S2 hca hva kp2 |-
         refine hE1 [some (.ref l),some (.ref cl),z2,z3,z4,z5,z6,z7,z8,z9,some (.ref a.ce)] _ ?_
         clear hE1
         have Sb:=S2.at_.1
         obtain⟨cp0,hcp0,hzm0⟩:=Sb.zm
         obtain⟨t0,pt0,t10,t20,bd0,dts0,ht0,kt0,kpt0,kbd0,prd0,_⟩:=proc hcp0
         rw[dsN hcp0] at hcall
         obtain⟨td0,htd0⟩:∃x,dts0[b.k]? = some x:=⟨_,Af (by rw[Ax prd0];exact (Ao.mp hcall).1)⟩
         obtain⟨v0,pd0,_⟩:PlAt X td0 (plC (.call x c0 ws)):=Paired.at2 (F:=fun t d=>PlAt X t (plC d)) prd0 htd0 hcall
         have pd0:X td0=some (.tup [.str "call",.str x,.str c0,.ref v0]):=pd0
         have atd0:atI (dts0.map V.ref) (b.k:Int)=some (.ref td0):=bn (by rw[Ai,htd0];rfl)
         refine ao (a:=tAsg _ _) fun E2 hE2 _ _=>?_
         refine⟨_,rfl,_,rfl,_,rfl,cl,_,_,_,rfl,rfl,SqL.of (lastOf S2),bh,b.ce,_,0,_,rfl,rfl,SqL.of Sb.hc,at0,l,_,_,.ref t0,rfl,rfl,SqL.of (S2.sX _ _ hl),at_i ht0,t0,_,5,_,rfl,rfl,SqT.of (S2.sX _ _ kt0),rfl,_,rfl,_,rfl,cl,_,_,_,rfl,rfl,SqL.of (lastOf S2),bh,b.ce,_,1,_,rfl,rfl,SqL.of Sb.hc,rfl,bd0,_,_,.ref td0,rfl,rfl,SqL.of (S2.sX _ _ kbd0),atd0,?_⟩
         refine hE2 [some (.ref l),some (.ref cl),z2,z3,z4,some (.ref td0),z6,z7,z8,z9,some (.ref a.ce)] _ ?_
         clear hE2
         refine ao (a:=tIfS _ _ _) fun E3 hE3 _ _=>?_
         have aug:∀(G3:Hp) (F3:Str->Int),LSt X G3 cps cl ({ b with F:=F3 }::r')->(b.k+1,F3)=gz cps r'.length (a.k,a.F) (b.k,b.F)->KpL cl (c::cs) H G3->E3.nx [some (.ref l),some (.ref cl),z2,z3,z4,some (.ref td0),z6,z7,z8,z9,some (.ref a.ce)] G3:=fun G3 F3 S3 eg kp3=>by
           refine hE3 _ _ ?_
           have S3b:=S3.at_.1
           refine⟨_,rfl,_,rfl,cl,_,_,_,rfl,rfl,SqL.of (lastOf S3),bh,.mk b.ce _ 1 _ rfl rfl (SqL.of S3b.hc) rfl ⟨_,_,rfl,rfl,b.ce,_,1,1,rfl,rfl,S3b.hc,rfl,?_⟩⟩
           refine⟨{ b with F:=F3,k:=b.k+1 },_,_,_,_,_,_,_,_,_,rfl,S3.putK (k':=b.k+1),eg,rfl,rfl,fun d o z n1 n2 n3=>?_⟩
           rw[ae (fun y=>?_)]
           . exact kp3 d o z n1 n2 n3
           . rcases (inn b (An _ Ah)).1 with w|w
             . exact n2 (by rw[y];exact w)
             . rw[y,w] at z;cases z
         have hinto:ky ((dsOf cps r'.length)[b.k]?)=x:=by rw[dsN hcp0,hcall];rfl
         refine⟨_,rfl,td0,_,1,_,rfl,rfl,SqT.of (S2.sX _ _ pd0),rfl,rfl,_,rfl,iteB (fun c3=>?_) (fun c3=>?_)⟩
         . have nx:x ≠ "" := fun z=>by rw[z] at c3;exact absurd c3 (by decide +kernel)
           have ok0:=(ok.ok cp0 (Ar hcp0)).ds _ (Ar hcall)
           have hxx:x∈xs:=ok0.1.resolve_left nx
           obtain⟨cp1',hcp1',_,_,hres⟩:=ok.link _ cp0 hcp0 x c0 ws (Ar hcall)
           have e1:cp1'=cp1:=by
             have y:cps[r'.length+1]? = some cp1:=hcp1
             rw[hcp1'] at y;exact Ay y
           subst e1
           have nres:=hres.resolve_left nx
           have rxs:cp1'.res∈xs:=(ok.ok cp1' (Ar hcp1')).res.resolve_left nres
           have nn:∀{y:Str},y∈xs->y ≠ "nil" := fun {y} hy z=>by have:=hx y hy;rw[z] at this;exact absurd this (by decide +kernel)
           obtain⟨cq,hcq,hzmA⟩:=S1.zm
           have eq1:cq=cp1':=by
             have y:cps[r'.length+1]? = some cq:=hcq
             rw[hcp1'] at y;exact (Ay y).symm
           subst eq1
           have rz:cq.res∈a.zs:=(hzmA _).mpr ⟨nres,nn rxs,Al.mpr (.inl (Al.mpr (.inr (As.mpr rfl))))⟩
           have xz:x∈b.zs:=(hzm0 x).mpr ⟨nx,nn hxx,Al.mpr (.inr (Dg.mpr ⟨_,Ar hcall,Ah⟩))⟩
           have gd:=DGet.k (k:=Sum.inr cq.res) hva
           rw[ja rz] at gd
           refine⟨_,rfl,a.ce,_,2,_,rfl,rfl,SqL.of hca,rfl,_,rfl,_,rfl,a.ce,_,0,_,rfl,rfl,SqL.of hca,at0,l,_,_,.ref t',rfl,rfl,SqL.of (S2.sX _ _ hl),at_i ht',t',_,2,_,rfl,rfl,SqT.of (S2.sX _ _ kt'),rfl,a.vd,_,rfl,gd,?_⟩
           refine⟨_,rfl,_,rfl,cl,_,_,_,rfl,rfl,SqL.of (lastOf S2),bh,b.ce,_,2,_,rfl,rfl,SqL.of Sb.hc,rfl,_,rfl,td0,_,1,_,rfl,rfl,SqT.of (S2.sX _ _ pd0),rfl,b.vd,_,rfl,DPut.k (k:=Sum.inr x) Sb.hv (bu (by unfold vK;rw[Ad];have:=Sb.zl;omega)),?_⟩
           rw[m6 xz]
           refine aug _ _ S2.putV ?_ fun d o z n1 n2 n3=>?_
           . unfold gz
             rw[hinto,if_neg nx,show mw cps (r'.length+1)=cq.res by unfold mw;rw[hcp1'];rfl]
           . rw[ae (fun y=>?_)]
             . exact kp2 d o z n1 n2 n3
             . rcases (inn b (An _ Ah)).2 with w|w
               . exact n3 (by rw[y];exact w)
               . rw[y,w] at z;cases z
         . have ex:x = "" := by
             rw[HQ] at c3
             exact V.str.inj (of_decide_eq_true c3)
           refine aug _ b.F S2 ?_ kp2
           unfold gz
           rw[hinto,if_pos ex]
     . have hk1:¬ cp1.ds.length=a.k:=fun z=>by
         refine absurd ?_ (of_decide_eq_false c2)
         rw[Ad,Ax prd',z]
       refine q G (a::b::r') S ?_ kp inn
       rw[<- eq]
       show absL (a::b::r')=if (dsOf cps ((absL r').length+1)).length=a.k then _ else absL (a::b::r')
       rw[absN,if_neg (by rw[dsN (show cps[r'.length+1]? = some cp1 from hcp1)];exact hk1)]
   . have e1:r=[]:=by
       cases r with
       | nil=>rfl
       | cons b r'=>rw[lenr] at c1;exact absurd (show ((((b::r').length+1:Nat)):Int)>1 by simp only[AD];omega) (of_decide_eq_false c1)
     subst e1
     refine (if_neg Am).mpr ?_
     exact q G [a] S (by rw[<- eq];rfl) kp inn
 cases d with
 | set x e =>
   have pd':X td=some (.tup [.str "set",.str x,.str e]):=pd
   refine⟨_,rfl,td,_,0,_,rfl,rfl,SqT.of (hS.sX _ _ pd'),at0,rfl,_,rfl,iteB (fun _=>?_) (fun c=>absurd c (by simp))⟩
   have xz:x∈c.zs:=hasN Ah dok.1
   have ez:e∈c.zs++[("nil" : Str)]:=hasE (An _ Ah) dok.2
   refine ao (a:=ut _ _ _) fun D4 hD4 _ _=>?_
   refine⟨_,rfl,_,rfl,td,_,2,_,rfl,rfl,SqT.of (hS.sX _ _ pd'),rfl,.mk c.vd c.zs c.F e rfl a0.hv ez ?_⟩
   refine⟨_,rfl,_,rfl,td,_,1,_,rfl,rfl,SqT.of (hS.sX _ _ pd'),rfl,c.vd,_,rfl,DPut.k (k:=Sum.inr x) a0.hv (bu (by unfold vK;rw[Ad];have:=a0.zl;omega)),?_⟩
   rw[m6 xz]
   have S4:=hS.putV (F':=upF c.F x (nilF c.F e))
   have kp4:KpL cl (c::cs) H (upd H c.vd (.dK (vK c.zs (upF c.F x (nilF c.F e))))):=fun d o z n1 n2 n3=>by rw[ae (fun y=>n3 (by rw[y];exact Ah))];exact z
   generalize upd H c.vd (.dK (vK c.zs (upF c.F x (nilF c.F e))))=H4 at S4 kp4 |-
   refine hD4 [some (.ref l),some (.ref cl),some (.int (cs.length:Int)),some (.int (c.k:Int)),some (.ref c.vd),some (.ref td),none,none,none,none,none] _ ?_
   have a4:=S4.at_.1
   refine⟨_,rfl,_,_,rfl,rfl,_,rfl,_,rfl,cl,_,_,_,rfl,rfl,SqL.of (lastOf S4),bh,c.ce,_,1,1,rfl,rfl,a4.hc,rfl,?_⟩
   refine wh _ { c with F:=upF c.F x (nilF c.F e),k:=c.k+1 } cs _ _ _ _ _ _ _ _ _ (S4.putK (k':=c.k+1)) (hch:ChainP cps ((c.k,c.F)::absL cs)).head ?_ (fun d o z n1 n2 n3=>?_) fun b hb=>?_
   . show _=match (dsOf cps (absL cs).length)[c.k]? with
       | some (.set x e)=>unwP cps ((absL cs).length+1) ((c.k+1,upF c.F x (nilF c.F e))::absL cs)
       | some (.call _ _ ws)=>unwP cps ((absL cs).length+2) ((0,cx (psOf cps ((absL cs).length+1)) ws c.F)::(c.k,c.F)::absL cs)
       | none=>(c.k,c.F)::absL cs
     rw[absN,dsN hcp,hd];rfl
   . rw[ae (fun y=>n2 (by rw[y];exact Ah))];exact kp4 d o z n1 n2 n3
   . rcases Aq.mp hb with rfl|hb
     . exact⟨.inl Ah,.inl Ah⟩
     . exact⟨.inl (An _ (AH hb)),.inl (An _ (AH hb))⟩
 | call x c' ws =>
   obtain⟨v,pd',pv⟩:=pd
   have pd':X td=some (.tup [.str "call",.str x,.str c',.ref v]):=pd'
   obtain⟨cp1,hcp1,hnm,hwl,hres⟩:=ok.link _ cp hcp x c' ws dmem
   obtain⟨t',pt',t1',t2',bd',dts',ht',kt',kpt',kbd',prd',pa'⟩:=proc hcp1
   have cok1:=ok.ok cp1 (Ar hcp1)
   refine⟨_,rfl,td,_,0,_,rfl,rfl,SqT.of (hS.sX _ _ pd'),at0,rfl,_,rfl,iteB (fun c=>absurd (V.str.inj (of_decide_eq_true c)) (by decide +kernel)) (fun _=>?_)⟩
   refine ao (a:=tAsg _ _) fun D4 hD4 _ _=>?_
   have at1:atI (ts.map V.ref) ((cs.length:Int)+1)=some (.ref t'):=by rw[show ((cs.length:Int)+1)=((cs.length+1:Nat):Int) by omega];exact at_i ht'
   refine⟨_,rfl,_,rfl,_,_,rfl,rfl,l,_,_,.ref t',rfl,rfl,SqL.of (hS.sX _ _ hl),at1,?_⟩
   refine hD4 [some (.ref l),some (.ref cl),some (.int (cs.length:Int)),some (.int (c.k:Int)),some (.ref c.vd),some (.ref td),some (.ref t'),none,none,none,none] _ ?_
   clear hD4
   refine ao (a:=tAsg _ _) fun D5 hD5 _ _=>?_
   intro gv hgv
   have s1:=ag hgv (.dK [])
   have k1:(upd H gv (.dK [])) gv=some (.dK (vK [] fun _=>0)):=aa
   generalize upd H gv (.dK [])=H1 at s1 k1 |-
   refine hD5 [some (.ref l),some (.ref cl),some (.int (cs.length:Int)),some (.int (c.k:Int)),some (.ref c.vd),some (.ref td),some (.ref t'),some (.ref gv),none,none,none] _ ?_
   clear hD5
   have SS:=hS.same s1
   refine ao (a:=tFor _ _ _) fun D6 hD6 _ _=>?_
   refine⟨_,rfl,.mk t' cp1 xs rfl (pa'.same SS.sX) cok1 h6 fun zl zs H2 e2 nzl kzl zn zm=>?_⟩
   refine⟨zl,rfl,⟨_,SqL.of kzl⟩,?_⟩
   have zl6:zs.length<=6:=by
     have:=w8 zn (xs:=xs) fun y hy=>by
       obtain⟨h1,h2,h3⟩:=(zm y).mp hy
       rcases jg cok1 h3 with z|z|z
       . exact absurd z h1
       . exact absurd z h2
       . exact z
     omega
   have nzg:zl≠gv:=fun z=>by rw[z,k1] at nzl;cases nzl
   have up0:∀{b:Addr} {o:HO},H b=some o->b≠gv:=fun hb=>aj hb hgv
   refine gw (xs:=zs.map V.str) (fun i σ G=>∃(z8:Option V),σ=[some (.ref l),some (.ref cl),some (.int (cs.length:Int)),some (.int (c.k:Int)),some (.ref c.vd),some (.ref td),some (.ref t'),some (.ref gv),z8,none,none]/\Same H G/\G zl=some (.lst (zs.map V.str))/\G gv=some (.dK (vK (zs.take i) fun _=>0))) ⟨none,rfl,s1.trans e2,kzl,by rw[BL];exact e2 _ _ k1⟩ ?_ ?_ ?_
   . rintro i σ G hi ⟨z8,rfl,eG,kz,kg⟩
     exact SqL.of kz
   . rintro i y σ G hy ⟨z8,rfl,eG,kz,kg⟩
     rw[Ai] at hy
     obtain⟨y,hy',rfl⟩:=AR.mp hy
     have hil:=(Ao.mp hy').1
     refine⟨_,rfl,_,rfl,gv,_,rfl,DPut.k (k:=Sum.inr y) kg (bu (by unfold vK;rw[Ad,AG];omega)),?_⟩
     have ny:¬ y∈zs.take i:=fun z=>by
       have h1:=zn.sublist (CQ (i+1) zs)
       rw[er hy'] at h1
       exact (CS.mp h1).2.2 y z y (As.mpr rfl) rfl
     rw[a8v ny,<- er hy']
     exact⟨_,rfl,fun b o z=>by rw[ae (up0 z)];exact eG _ _ z,by rw[ae nzg];exact kz,aa⟩
   rintro σ G ⟨z8,rfl,eG,kz,kg⟩
   refine hD6 _ _ ?_
   clear hD6
   rw[Ad,Bv] at kg
   have XG:∀{b:Addr} {o:HO},X b=some o->G b=some o:=fun hb=>eG _ _ (hS.sX _ _ hb)
   refine ao (a:=tFor _ _ _) fun D7 hD7 _ _=>?_
   refine⟨_,rfl,t',_,1,_,rfl,rfl,SqT.of (XG kt'),rfl,_,rfl,td,_,3,_,rfl,rfl,SqT.of (XG pd'),rfl,pt',v,_,_,rfl,SqT.of (XG kpt'),SqT.of (XG pv),?_⟩
   refine a5x (xs:=cp1.ps.map V.str) (ys:=ws.map V.str) (fun i σ G=>∃(z8 z9:Option V),σ=[some (.ref l),some (.ref cl),some (.int (cs.length:Int)),some (.int (c.k:Int)),some (.ref c.vd),some (.ref td),some (.ref t'),some (.ref gv),z8,z9,none]/\Same H G/\G gv=some (.dK (vK zs (cx (cp1.ps.take i) (ws.take i) c.F)))) ⟨z8,none,rfl,eG,by rw[BL,BL,a1x];exact kg⟩ ?_ (by rw[Ad,Ad,hwl]) ?_ ?_
   . rintro i σ G ⟨z8,z9,rfl,eG,kg⟩
     exact⟨SqT.of (eG _ _ (hS.sX _ _ kpt')),SqT.of (eG _ _ (hS.sX _ _ pv))⟩
   . rintro i xv yv σ G p hxv hyv ⟨z8,z9,rfl,eG,kg⟩ hp
     rw[Ai] at hxv hyv
     obtain⟨y,hy,rfl⟩:=AR.mp hxv
     obtain⟨u,hu,rfl⟩:=AR.mp hyv
     have s3:=ag hp (.tup [V.str y,V.str u])
     have k3:(upd G p (.tup [V.str y,V.str u])) p=some (.tup [V.str y,V.str u]):=aa
     generalize upd G p (.tup [V.str y,V.str u])=G3 at s3 k3 |-
     refine⟨p,_,rfl,SqT.of k3,rfl,_,_,rfl,_,_,rfl,rfl,?_⟩
     have yp:=Ar hy
     have yz:y∈zs:=(zm y).mpr ⟨fun z=>by have:=hx y (cok1.px y yp);rw[z] at this;exact absurd this (by decide +kernel),fun z=>by have:=hx y (cok1.px y yp);rw[z] at this;exact absurd this (by decide +kernel),Al.mpr (.inl (Al.mpr (.inl yp)))⟩
     have uw:=Ar hu
     refine⟨_,rfl,_,rfl,.mk c.vd c.zs c.F u rfl (s3 _ _ (eG _ _ a0.hv)) (hasE (An _ uw) (dok.2.2.2 u uw)) ?_⟩
     refine⟨_,rfl,_,rfl,gv,_,rfl,DPut.k (k:=Sum.inr y) (s3 _ _ kg) (bu (by unfold vK;rw[Ad];omega)),?_⟩
     have ny:¬ y∈cp1.ps.take i:=fun z=>by
       have h1:=cok1.pn.sublist (CQ (i+1) cp1.ps)
       rw[er hy] at h1
       exact (CS.mp h1).2.2 y z y (As.mpr rfl) rfl
     rw[m6 yz,<- a1a (by rw[AG,AG,hwl]) ny,<- er hy,<- er hu]
     exact⟨_,_,rfl,fun b o z=>by rw[ae (up0 z)];exact s3 _ _ (eG _ _ z),aa⟩
   rintro σ G ⟨z8,z9,rfl,eG,kg⟩
   refine hD7 _ _ ?_
   clear hD7
   rw[Ad,Bv,Bm (by omega)] at kg
   have SG:=hS.same eG
   refine⟨_,rfl,.inl ⟨rfl,_,SqL.of SG.hcl⟩,_,rfl,_,_,rfl,rfl,_,rfl,(show 3<=sizeLine by decide),fun ce hce=>?_⟩
   have s4:=ag hce (.lst [V.int ((cs.length:Int)+1),V.int 0,V.ref gv])
   have k4:(upd G ce (.lst [V.int ((cs.length:Int)+1),V.int 0,V.ref gv])) ce=some (.lst [V.int (((c::cs).length:Nat):Int),V.int ((0:Nat):Int),V.ref gv]):=aa
   generalize upd G ce (.lst [V.int ((cs.length:Int)+1),V.int 0,V.ref gv])=G4 at s4 k4 |-
   have S4:=SG.same s4
   refine⟨cl,_,_,rfl,rfl,S4.hcl,bu (by rw[Dj,Ad,AD];have:=(Ao.mp hcp).1;omega),?_⟩
   have nH:H ce=none:=eG.free hce
   have A:LcAt X G4 cps (c::cs).length ⟨ce,gv,0,zs,cx cp1.ps ws c.F⟩:=⟨hS.sX.free nH,hS.sX.free hgv,k4,s4 _ _ kg,by show zs.length<=8;omega,zn,⟨cp1,hcp1,zm⟩⟩
   have S5:=S4.push A (fun z=>by have y:=SG.hcl;rw[<- z,hce] at y;cases y) (fun z=>by
     obtain⟨b,hb,e⟩:=A9.mp z
     obtain⟨i,hi⟩:=SG.at_.mem b hb
     have y:=hi.hc;rw[e,hce] at y;cases y) (fun z=>by
     obtain⟨b,hb,e⟩:=A9.mp z
     obtain⟨i,hi⟩:=hS.at_.mem b hb
     have y:=hi.hv;rw[e,hgv] at y;cases y)
   refine wh _ _ (c::cs) _ _ _ _ _ _ _ _ _ S5 ⟨⟨x,c',ws,?_⟩,hch⟩ ?_ (fun d o z n1 n2 n3=>?_) fun b hb=>?_
   . show (dsOf cps (absL cs).length)[c.k]? = _
     rw[absN,dsN hcp];exact hd
   . show _=match (dsOf cps (absL cs).length)[c.k]? with
       | some (.set x e)=>unwP cps ((absL cs).length+1) ((c.k+1,upF c.F x (nilF c.F e))::absL cs)
       | some (.call _ _ ws)=>unwP cps ((absL cs).length+2) ((0,cx (psOf cps ((absL cs).length+1)) ws c.F)::(c.k,c.F)::absL cs)
       | none=>(c.k,c.F)::absL cs
     rw[absN,dsN hcp,hd,show psOf cps (cs.length+1)=cp1.ps by unfold psOf;rw[hcp1];rfl];rfl
   . rw[ae n1];exact s4 _ _ (eG _ _ z)
   . rcases Aq.mp hb with rfl|hb
     . exact⟨.inr nH,.inr hgv⟩
     . exact⟨.inl (AH hb),.inl (AH hb)⟩
end K52
namespace L2
open PySem PySem.Spec PyProof.Rows
section
variable {X:Cx}
inductive rEqAl (K:Ab) (x y:V) (H:Hp) (Q:VK):Prop
 | mk (a b:Addr) (kvs kws:List (Key×V)) (h1:x=.ref a) (h2:y=.ref b) (h3:H a=some (.dK kvs)) (h4:H b=some (.dK kws)) (h5:kvs.length=kws.length) (h6:∀k v,valV kvs k=some v->∃v',valV kws k=some v'/\AlV K H v v') (q:Q (.bl true) H):rEqAl K x y H Q
theorem a96 {K:Ab}(hK:X.K=K) (hu:X.A.units+32<cLine):OpR X (compareOp .Eq) (rEqAl K):=by
 subst hK
 intro pins s σ H x y v u Q I rx ry h
 obtain⟨a,b,kvs,kws,rfl,rfl,ha,hb,hln,hs,q⟩:=h
 cases rx
 cases ry
 obtain⟨z,da,va,ra,dda⟩:=fw I.hok (.inl ha)
 obtain⟨_,db,vb,rb,ddb⟩:=fw I.hok (.inl hb)
 have hl:va.length=vb.length:=by rw[<- ra.length,<- rb.length];exact hln
 refine PySem.W.keq_eq (r:=true) da db dda ddb (by omega) (fun _=>?_) ⟨.bl true,H,I,?_,q⟩
 . refine pq va fun p hp=>?_
   have e1:=jd (k:=p.1) (v:=p.2) (qx dda) hp
   have r1:=ra.val p.1
   have r2:=rb.val p.1
   rw[e1] at r1
   cases hv:valV kvs p.1 with
   | none=>rw[hv] at r1;exact r1.elim
   | some v =>
     rw[hv] at r1
     obtain⟨v',hv',al⟩:=hs _ _ hv
     rw[hv'] at r2
     cases hy:valueAt vb p.1 with
     | none=>rw[hy] at r2;exact r2.elim
     | some y =>
       rw[hy] at r2
       refine⟨y,rfl,?_⟩
       rcases al with⟨h1,rfl⟩|⟨d,h1,h2,ok⟩
       . exact vt h1 r1 r2
       . obtain⟨as,q1⟩:=Dp.reads I h1 r1
         obtain⟨bs,q2⟩:=Dp.reads I h2 r2
         have:=IC d d X.A.in1 s p.2 y as bs q1 q2 ok.1 ok.1 (by have:=ok.2;have:X.A.in1.units=X.A.units+1:=rfl;rw[HN];omega)
         rw[GV d ok.1] at this
         exact this
 . rw[hl]
   simp[RelV]
end
section
variable {X:Cx}
theorem ue:c7 X (.builtin "isinstance") (fun xs H Q=>∃a kvs,xs=[.ref a,.ty "dict"]/\H a=some (.dK kvs)/\Q (.bl true) H):=by
 intro pins s σ H xs us Q I r h
 obtain⟨a,kvs,rfl,ha,q⟩:=h
 cases r with
 | cons r1 r =>
   cases r with
   | cons r2 r =>
     cases r
     cases r1
     cases r2
     obtain⟨z,hd,vs,rel,dd⟩:=nr I.hok ha
     obtain⟨o,e,hc⟩:=dd.typeIs
     exact IsiPair.dict_dict e hc ⟨.bl true,H,I,rfl,q⟩
end
end L2
namespace K52
open PySem PySem.Spec L2 Mir
variable {P:Program}{w:World}{K:Ab}{mg:Str->Option Value}{base:Heap}{f g gS gN gA gW gI gL gF gO gT gB C fI CM CF fJ gD gR gU gM gH gE gC gK gX gP:Addr}{fd gd dS dN dA dW dI dL dF dO dT dB dD dR dU dM dH dE dC dK dX dP:FuncData}
noncomputable abbrev ml:Stmt:=top 44
theorem se {f:Str->Int}{k:Key}{v:V}:∀{xs:List Str},valV (vK xs f) k=some v->∃y∈xs,k=Sum.inr y/\v=.int (f y)
 | [],h=>by cases h
 | y::xs,h=>by
   by_cases e:(Sum.inr y:Key)=k
   . rw[show valV (vK (y::xs) f) k=some (.int (f y)) from gp e] at h
     exact⟨y,Ah,e.symm,(Ay h).symm⟩
   . have h':valV (vK xs f) k=some v:=by
       unfold valV vK at h |-
       rw[AC,BQ,decide_eq_false e] at h
       exact h
     obtain⟨z,hz,e1,e2⟩:=se h'
     exact⟨z,An _ hz,e1,e2⟩
theorem a8j (xs:List Str) (f:Str->Int):(vK xs f).map (fun kv=>kV kv.1)=xs.map V.str:=by unfold vK;rw[BO];rfl
inductive spStands (K:Ab) (CM CF:Addr) (vs:List V) (H:Hp) (Q:VK) (E:XK):Prop
 | mk (X:Hp) (m dm pd fl cd:Addr) (fm:List (Str×V)) (g:Int) (a:Fr) (frs:List Fr) (l cl:Addr) (ts:List Addr) (cps:List Cp) (c:Lc) (cs:List Lc) (cp:Cp) (h0:vs=[.ref m,.ref l,.ref cl]) (hm:X m=some (.ins CM dm fm)) (hM:MFs fm pd fl cd g false) (hcd:X cd=some (.dK [])) (hS:StAt K CF X H fl (a::frs)) (hl:X l=some (.lst (ts.map V.ref))) (hp:Paired (fun t c=>PrcAt K X [30] t (prcC c)) ts cps) (hL:LSt X H cps cl (c::cs)) (hcp:cps[cs.length]? = some cp)
     (e1:a.nm=cp.name) (e2:a.k=c.k) (e3:a.ts.length=cp.ds.length) (e4:a.F=c.F) (e5:∀y,y∈a.ys↔y∈c.zs) (e6:a.ys.Nodup) (hk:c.k<=cp.ds.length) (hend:cs≠[]->c.k<cp.ds.length) (okn:(PyData.str cp.name).canLay0=true) (q:∀H',Same H H'->Q (.bl true) H'):spStands K CM CF vs H Q E
theorem scStands:FnScope ["_law_machine","_law_program_here","_law_calls","_law_number","_law_k","_law_values","_law_word","_law_where","_law_found","_law_thing"] ["_law_machine","_law_program_here","_law_calls"] (aq ml):=⟨rfl,rfl,rfl,by decide +kernel,rfl,by decide +kernel,by decide +kernel⟩
theorem a3p (C:Con K mg w) (T:TxM K mg CM fI) (U:TxF K mg CF fJ) (F:Fun K "_law_stands" "_law_stands" ml f fd) (GW:FnOk P w K mg base CX0 5 gW dW ["self"] (spWord K CM CF)) (cW:MCal K CM "word" gW dW ["self"]) (GX:FnOk P w K mg base CX0 6 gX dX ["self"] (spWhere K CM CF)) (cX:MCal K CM "where" gX dX ["self"]) (GH:FnOk P w K mg base CX0 1 gH dH ["self"] (a4f CM CF)) (cH:MCal K CM "held" gH dH ["self"]) (GP:FnOk P w K mg base CX0 1 gP dP ["self"] (a3b CM)) (cP:MCal K CM "heap" gP dP ["self"]):FnOk P w K mg base CX0 7 f fd ["_law_machine","_law_program_here","_law_calls"] (spStands K CM CF):=by
 refine F.okQ scStands (fun vs H Q E h=>?_) (fun cdv A outer s0 H vs Q E hr h=>?_)
 . obtain⟨_,_,_,_,_,_,_,_,_,_,_,_,_,_,_,_,_,rfl,_⟩:=h;rfl
 obtain⟨X,m,dm,pd,fl,cd,fm,g,a,frs,l,cl,ts,cps,c,cs,cp,rfl,hm,hM,hcd,hS,hl,hp,hL,hcp,e1,e2,e3,e4,e5,e6,hk,hend,okn,q⟩:=h
 have nd:=scStands.nd
 have hu1:=dw hr
 have hr5:=hr.mono (j:=5) (by omega)
 have hr1:=hr.mono (j:=1) (by omega)
 have hu:(A.deeper (PyProof.Rows.envOfC "_law_stands" (aq ml) s0.heap.objs.size f cdv)).units+32<cLine:=AL (Ca (by decide:32<=64) _) hr.units
 refine⟨_,af (jk (ah (ixK (K:=K) rfl) (qv 2) (c5 bw ac) (fun _ _=>rfl)) (yx (K:=K) rfl (b8 (i:=3) nd rfl (Or.inl rfl)) (b8 (i:=4) nd rfl (Or.inl rfl)) (b8 (i:=5) nd rfl (Or.inl rfl))))
   (af (aw (i:=6) nd rfl (Or.inl rfl) b6)
   (af (aw (i:=7) nd rfl (Or.inl rfl) (fe (av (ah (ixTK (K:=K) rfl) (ah (ixK (K:=K) rfl) (qv 1) (qv 3) (fun _ _=>rfl)) ac (fun _ _=>rfl)) (gx (ak (qv 4) ad) ad))))
   (af (bf (QW.qt (jf (ay bp (qv 3) ac (az _)) (ik (ay bp (qv 4) (bc (lenK (K:=K) rfl) rfl C.len Bk (av (ah (ixTK (K:=K) rfl) (ah (ixK (K:=K) rfl) (qv 1) ac (fun _ _=>rfl)) ac (fun _ _=>rfl)) ad)) (az _))))) (af (aw (i:=6) nd rfl (Or.inl rfl) b6)
   (ai (aw (i:=7) nd rfl (Or.inl rfl) i6))) bo)
   (af (aw (i:=8) nd rfl (Or.inl rfl) (cy (qv 0) T.cl cH.meth GH hr1 cH.bind .nil ap))
   (af (bf (QW.qt (nk (ay kx (cy (qv 0) T.cl cW.meth GW hr5 cW.bind .nil ap) (qv 6) (az _)) (nk (ay (a9k hu) (cy (qv 0) T.cl cX.meth GX hr cX.bind .nil ap) (qv 7) (az _)) (nk (wy (ir (bc ue rfl C.isi CC (ak (qv 8) (ak ⟨gty C.dict BW⟩ ad))))) (r6 (ay (a8q (K:=K) rfl hu) (qv 8) (qv 5) (az _))))))) (ai (b0 ib)) bo)
   (af (a83 (c8 AM rfl (wv (qv 8)) (b8 (i:=9) nd rfl (Or.inl rfl)) (ai (bf (QW.qt (nk (wy (ir (bc w9 rfl C.isi CC (av (em hu1 (qv 8) (qv 9) (fun _ _=>rfl)) (ak ⟨gty C.int GZ⟩ ad))))) (r6 (ir (bc yf rfl C.isi CC (av (em hu1 (qv 8) (qv 9) (fun _ _=>rfl)) (ak ⟨gty C.bool PyProof.Rows.boot_bool⟩ ad))))))) (ai (b0 ib)) bo))))
   (ai (b0 (rl (a96 (K:=K) rfl hu) (cy (qv 0) T.cl cP.meth GP hr1 cP.bind .nil ap) jw (az _)))))))))),?_⟩
 have Sa:=hS.fr a Ah
 obtain⟨v1,v3,v4,hpr⟩:=Sa.hpr
 rw[e1] at hpr
 have hlt:=Ax hp
 obtain⟨t,ht⟩:∃t,ts[cs.length]? = some t:=⟨_,Af (by have:=(Ao.mp hcp).1;omega)⟩
 obtain⟨pt,t1,t2,f1,p1,f2,p2,bd,px⟩:=Paired.at2 (F:=fun t c=>PrcAt K X [30] t (prcC c)) hp ht hcp
 obtain⟨dts,kbd,prd⟩:=ip px.body
 have kt:X t=some (.tup [.str cp.name,.ref pt,.str cp.res,.ref t1,.ref t2,.ref bd]):=px.tup
 have c0:=hL.at_.1
 have hcl:H cl=some (.lst ((cs.map fun c=>V.ref c.ce).reverse++[V.ref c.ce])):=by rw[hL.hcl,AC,BZ]
 have at_i:atI (ts.map V.ref) (cs.length:Int)=some (.ref t):=bn (by rw[Ai,ht];rfl)
 have mW:=hM.meth "word" (by decide +kernel)
 have mX:=hM.meth "where" (by decide +kernel)
 have mH:=hM.meth "held" (by decide +kernel)
 have mP:=hM.meth "heap" (by decide +kernel)
 generalize hwd:(if a.k<a.ts.length then ("on" : Str) else "end")=wd
 generalize hdW:(if a.k<a.ts.length then PyData.tuple [.str cp.name,.tuple [.int (c.k:Int)]] else .none)=dW
 have callW:∀{G:Hp} {Q':VK},Same H G->(∀G',Same G G'->Q' (.str wd) G')->spWord K CM CF [.ref m] G Q' E0:=fun {G Q'} e q'=>by
   subst hwd
   have SG:=hS.same e
   have SaG:=SG.fr a Ah
   exact .fine m pd fl cd a.p a.pr a.pt a.nd a.bd a.bd _ g a.rc _ v1 _ v3 v4 [] a.k a.ts rfl (SG.ma hm hM) (SG.sX _ _ hpr) SaG.hpt rfl (A8 _) (SG.sX _ _ SaG.hbd) q'
 have callX:∀{G:Hp} {Q':VK},Same H G->(∀v G',Same G G'->Dp K G' v dW->Q' v G')->spWhere K CM CF [.ref m] G Q' E0:=fun {G Q'} e q'=>by
   subst hdW
   have SG:=hS.same e
   refine .mk X m dm pd fl cd fm g a frs rfl hm hM SG (fun z G' e'=>q' _ _ e' (by rw[if_neg (by omega)];exact .non)) fun z r G' e' hr=>q' _ _ e' ?_
   rw[if_pos z]
   have hpt:=(SG.same e').fr a Ah |>.hpt
   rw[e2] at hpt
   rw[e1] at hr
   exact .tup (SqT.of hr) (.cons (.str cp.name) (.cons (.tup hpt (.cons (.int _) .nil)) .nil))
 have okW:EqOk dW:=by
   subst hdW
   split
   . exact⟨by simp only[GQ] at okn;simp[GQ,PyData.canLayAll0,okn],by simp[Jd,PyData.depthAll]⟩
   . exact⟨rfl,by simp[Jd]⟩
 refine ao (a:=tAsg _ _) fun D1 hD1 _ _=>?_
 refine⟨_,rfl,_,rfl,cl,_,_,_,rfl,rfl,SqL.of hcl,bh,c.ce,_,rfl,SqL.of c0.hc,rfl,_,_,rfl,_,_,rfl,_,_,rfl,rfl,?_⟩
 refine hD1 [some (.ref m),some (.ref l),some (.ref cl),some (.int (cs.length:Int)),some (.int (c.k:Int)),some (.ref c.vd),none,none,none,none] _ ?_
 clear hD1
 refine ao (a:=tAsg _ _) fun D2 hD2 _ _=>?_
 refine hD2 [some (.ref m),some (.ref l),some (.ref cl),some (.int (cs.length:Int)),some (.int (c.k:Int)),some (.ref c.vd),some (.str "on"),none,none,none] _ ?_
 clear hD2
 refine ao (a:=tAsg _ _) fun D3 hD3 _ _=>?_
 refine⟨_,rfl,_,rfl,l,_,_,.ref t,rfl,rfl,SqL.of (hS.sX _ _ hl),at_i,t,_,0,_,rfl,rfl,SqT.of (hS.sX _ _ kt),at0,_,rfl,(show 1<=sizeLine by decide),fun u1 hu1'=>⟨(show 2<=sizeLine by decide),fun u2 hu2'=>?_⟩⟩
 have s1:=ag hu1' (.tup [.int (c.k:Int)])
 have s2:=ag hu2' (.tup [.str cp.name,.ref u1])
 have k1:(upd H u1 (.tup [.int (c.k:Int)])) u1=some (.tup [.int (c.k:Int)]):=aa
 have k2:(upd (upd H u1 (.tup [.int (c.k:Int)])) u2 (.tup [.str cp.name,.ref u1])) u2=some (.tup [.str cp.name,.ref u1]):=aa
 have k1':=s2 _ _ k1
 have e12:=s1.trans s2
 generalize upd (upd H u1 (.tup [.int (c.k:Int)])) u2 (.tup [.str cp.name,.ref u1])=G at e12 k1' k2 |-
 clear s1 s2 k1 hu1' hu2'
 refine hD3 [some (.ref m),some (.ref l),some (.ref cl),some (.int (cs.length:Int)),some (.int (c.k:Int)),some (.ref c.vd),some (.str "on"),some (.ref u2),none,none] _ ?_
 clear hD3
 have dp2:∀G',Same G G'->Dp K G' (.ref u2) (.tuple [.str cp.name,.tuple [.int (c.k:Int)]]):=fun G' e'=>.tup (SqT.of (e' _ _ k2)) (.cons (.str cp.name) (.cons (.tup (SqT.of (e' _ _ k1')) (.cons (.int _) .nil)) .nil))
 refine ao (a:=tIfS _ _ _) fun D4 hD4 _ _=>?_
 have go:∀v8:V,(∀G',Same G G'->Dp K G' v8 dW)->D4.nx [some (.ref m),some (.ref l),some (.ref cl),some (.int (cs.length:Int)),some (.int (c.k:Int)),some (.ref c.vd),some (.str wd),some v8,none,none] G:=fun v8 hv8=>by
   refine hD4 _ _ ?_
   clear hD4
   have SG:=hS.same e12
   have SaG:=SG.fr a Ah
   refine ao (a:=tAsg _ _) fun D5 hD5 _ _=>?_
   refine⟨_,rfl,m,dm,fm,rfl,SG.sX _ _ hm,mH,m,pd,fl,cd,a.p,a.pr,a.pt,a.nd,_,g,false,a.rc,_,rfl,SG.ma hm hM,SaG.hnd,fun fd0 hfd0=>?_⟩
   have s4:=ag hfd0 (.dK (vK a.ys a.F))
   have k4:(upd G fd0 (.dK (vK a.ys a.F))) fd0=some (.dK (vK a.ys a.F)):=aa
   generalize upd G fd0 (.dK (vK a.ys a.F))=G4 at s4 k4 |-
   have e14:=e12.trans s4
   refine hD5 [some (.ref m),some (.ref l),some (.ref cl),some (.int (cs.length:Int)),some (.int (c.k:Int)),some (.ref c.vd),some (.str wd),some v8,some (.ref fd0),none] _ ?_
   clear hD5
   refine ao (a:=tIfS _ _ _) fun D6 hD6 _ _=>?_
   have nt:¬ (!decide (V.str wd=V.str wd))=true:=by rw[decide_eq_true rfl];decide
   refine⟨_,rfl,m,dm,fm,rfl,e14 _ _ (hS.sX _ _ hm),mW,callW e14 fun G5 s5=>?_⟩
   refine⟨_,rfl,rfl,_,rfl,iteB (fun c=>absurd c nt) (fun _=>?_)⟩
   have e15:=e14.trans s5
   refine⟨_,rfl,m,dm,fm,rfl,e15 _ _ (hS.sX _ _ hm),mX,callX e15 fun v G6 s6 hv=>?_⟩
   have e16:=e15.trans s6
   have s46:=s5.trans s6
   refine⟨_,rfl,dW,dW,hv,hv8 _ (s4.trans s46),okW,okW,?_⟩
   rw[GV _ okW.1]
   refine⟨_,rfl,iteB (fun c=>absurd c Am) (fun _=>?_)⟩
   have k6:=s46 _ _ k4
   refine⟨_,rfl,fd0,_,rfl,k6,_,rfl,iteB (fun c=>absurd c Am) (fun _=>?_)⟩
   have hv6:=e16 _ _ c0.hv
   have hlen:a.ys.length=c.zs.length:=Nat.le_antisymm (Bg e6 fun y hy=>(e5 y).mp hy) (Bg c0.zn fun y hy=>(e5 y).mpr hy)
   refine⟨_,rfl,_,rfl,.mk fd0 c.vd _ _ rfl rfl k6 hv6 (by unfold vK;rw[Ad,Ad];exact hlen) (fun k v hv=>?_) ⟨_,rfl,iteB (fun c=>absurd c Am) (fun _=>?_)⟩⟩
   . obtain⟨y,hy,rfl,rfl⟩:=se hv
     exact⟨_,ja ((e5 y).mp hy),.inl ⟨rfl,by rw[e4]⟩⟩
   refine hD6 _ _ ?_
   clear hD6
   refine ao (a:=a2w _ _) fun D7 hD7 _ _=>?_
   refine⟨_,rfl,fd0,_,rfl,k6,fun od nf=>?_⟩
   refine a4q (fun i σ G'=>∃z9:Option V,σ=[some (.ref m),some (.ref l),some (.ref cl),some (.int (cs.length:Int)),some (.int (c.k:Int)),some (.ref c.vd),some (.str wd),some v8,some (.ref fd0),z9]/\G'=upd G6 fd0 (.frz od (.dK (vK a.ys a.F)))) ⟨none,rfl,rfl⟩ ?_ ?_ ?_
   . rintro i σ G' hi ⟨z9,rfl,rfl⟩
     exact aa
   . rintro i x σ G' hx ⟨z9,rfl,rfl⟩
     rw[a8j,Ai] at hx
     obtain⟨y,hy,rfl⟩:=AR.mp hx
     have hmy:=Ar hy
     have hg:DGet (upd G6 fd0 (.frz od (.dK (vK a.ys a.F)))) fd0 (.str y) (some (.int (a.F y))):=.inl ⟨_,Sum.inr y,.inr ⟨_,aa⟩,rfl,(ja hmy).symm⟩
     refine⟨_,rfl,_,rfl,fd0,_,rfl,hg,_,rfl,_,rfl,iteB (fun c=>absurd c Am) (fun _=>?_)⟩
     exact⟨_,rfl,_,rfl,fd0,_,rfl,hg,_,rfl,_,rfl,iteB (fun c=>absurd c Am) (fun _=>⟨_,rfl,rfl⟩)⟩
   rintro σ G' ⟨z9,rfl,rfl⟩
   refine⟨fd0,od,_,aa,nf,hD7 _ _ ?_⟩
   have e17:Same H (upd (upd G6 fd0 (.frz od (.dK (vK a.ys a.F)))) fd0 (.dK (vK a.ys a.F))):=fun b u hb=>by
     by_cases z:b=fd0
     . rw[z,aa]
       have y:=e16 _ _ hb
       rw[z,k6] at y;exact y
     . rw[ae z,ae z];exact e16 _ _ hb
   generalize upd (upd G6 fd0 (.frz od (.dK (vK a.ys a.F)))) fd0 (.dK (vK a.ys a.F))=G8 at e17 |-
   refine⟨_,rfl,m,dm,fm,rfl,e17 _ _ (hS.sX _ _ hm),mP,m,dm,pd,fl,cd,fm,g,false,_,rfl,e17 _ _ (hS.sX _ _ hm),hM,e17 _ _ (hS.sX _ _ hcd),fun a2 ha2=>?_⟩
   have s9:=ag ha2 (.dK [])
   have k9:(upd G8 a2 (.dK [])) a2=some (.dK []):=aa
   generalize upd G8 a2 (.dK [])=G9 at s9 k9 |-
   intro a3 ha3
   have s10:=ag ha3 (.dK [])
   exact .mk a2 a3 [] [] rfl rfl (s10 _ _ k9) aa rfl (fun k v hv=>by cases hv) (q _ ((e17.trans s9).trans s10))
 subst hwd hdW
 by_cases z:a.k<a.ts.length
 . have g1:=go (.ref u2) (fun G' e'=>by rw[if_pos z];exact dp2 G' e')
   rw[if_pos z] at g1
   refine⟨_,rfl,rfl,_,rfl,iteB (fun c1=>?_) (fun _=>g1)⟩
   have e0:cs.length=0:=by have:=V.int.inj (of_decide_eq_true c1);omega
   have ht0:ts[0]? = some t:=by rw[<- e0];exact ht
   refine⟨_,rfl,_,rfl,l,_,0,.ref t,rfl,rfl,SqL.of (e12 _ _ (hS.sX _ _ hl)),bn (j:=0) (by rw[Ai,ht0];rfl),t,_,5,_,rfl,rfl,SqT.of (e12 _ _ (hS.sX _ _ kt)),rfl,bd,_,rfl,.inl (SqL.of (e12 _ _ (hS.sX _ _ kbd))),rfl,_,rfl,iteB (fun c2=>?_) (fun _=>g1)⟩
   have:=V.int.inj (of_decide_eq_true c2)
   rw[Ad,Ax prd] at this
   omega
 . have g1:=go .non (fun G' e'=>by rw[if_neg z];exact .non)
   rw[if_neg z] at g1
   have e0:cs=[]:=by
     cases cs with
     | nil=>rfl
     | cons b r=>exact absurd (hend (by simp)) (by omega)
   have ht0:ts[0]? = some t:=by rw[e0] at ht;exact ht
   refine⟨_,rfl,rfl,_,rfl,iteB (fun c1=>?_) (fun c1=>absurd (show V.int (cs.length:Int)=V.int 0 by rw[e0];rfl) (of_decide_eq_false c1))⟩
   refine⟨_,rfl,_,rfl,l,_,0,.ref t,rfl,rfl,SqL.of (e12 _ _ (hS.sX _ _ hl)),bn (j:=0) (by rw[Ai,ht0];rfl),t,_,5,_,rfl,rfl,SqT.of (e12 _ _ (hS.sX _ _ kt)),rfl,bd,_,rfl,.inl (SqL.of (e12 _ _ (hS.sX _ _ kbd))),rfl,_,rfl,iteB (fun c2=>g1) (fun c2=>absurd (show V.int (c.k:Int)=V.int ((dts.map V.ref).length:Nat) by rw[Ad,Ax prd,show c.k=cp.ds.length by omega]) (of_decide_eq_false c2))⟩
theorem dr {cps:List Cp}{i:Nat}{cp:Cp}(h:cps[i]? = some cp):dsOf cps i=cp.ds:=by unfold dsOf;rw[h];rfl
theorem a68 {cps:List Cp}{i:Nat}{cp:Cp}(h:cps[i]? = some cp):mw cps i=cp.res:=by unfold mw;rw[h];rfl
theorem a8y {cps:List Cp}{i:Nat}{cp:Cp}(h:cps[i]? = some cp):psOf cps i=cp.ps:=by unfold psOf;rw[h];rfl
structure FRel (X:Hp) (cps:List Cp) (i j:Nat) (f:Fr) (a:Nat×(Str->Int)) (cp:Cp):Prop where
 at_:cps[i]? = some cp
 nm:f.nm=cp.name
 res:f.res=cp.res
 ds:Paired (fun t d=>PlAt X t (plC d)) f.ts cp.ds
 nd:f.ys.Nodup
 mem:∀y,y∈f.ys↔y ≠ "" /\ y ≠ "nil" /\ y∈gn cp
 F:f.F=a.2
 k:f.k=a.1+j
 le:a.1<=cp.ds.length
noncomputable def Rc (cps:List Cp) (f:Fr):PS->Prop
 | []=>True
 | b::s=>f.rc=ky ((dsOf cps s.length)[b.1]?)
noncomputable def MR (X:Hp) (cps:List Cp):Nat->List Fr->PS->Prop
 | _,[],[]=>True
 | j,f::r,a::s=>(∃cp,FRel X cps s.length j f a cp)/\Rc cps f s/\MR X cps 1 r s
 | _,_,_=>False
theorem MR.len {X:Hp}{cps:List Cp}:∀{j:Nat}{frs:List Fr}{s:PS},MR X cps j frs s->frs.length=s.length
 | _,[],[],_=>rfl
 | _,f::r,a::s,h=>by rw[AD,AD,h.2.2.len]
 | _,[],_::_,h=>h.elim
 | _,_::_,[],h=>h.elim
theorem MR.leave {X:Hp}{cps:List Cp}:∀{n:Nat}{frs:List Fr}{s:PS},MR X cps 0 frs s->ChainP cps s->MR X cps 0 (dj n frs) (unwP cps n s)
 | 0,frs,s,h,_=>by
   cases frs with
   | nil=>cases s with
     | nil=>exact h
     | cons=>exact h
   | cons f r=>cases r with
     | nil=>cases s with
       | nil=>exact h
       | cons a s=>cases s with
         | nil=>exact h
         | cons=>exact h
     | cons g r=>cases s with
       | nil=>exact h
       | cons a s=>cases s with
         | nil=>exact h
         | cons=>exact h
 | n+1,[],[],h,_=>h
 | n+1,[],_::_,h,_=>h.elim
 | n+1,_::_,[],h,_=>h.elim
 | n+1,[f],[a],h,_=>h
 | n+1,[f],a::b::s,h,_=>h.2.2.elim
 | n+1,f::g::r,[a],h,_=>h.2.2.elim
 | n+1,f::g::r,a::b::s,h,ch=>by
   obtain⟨⟨cp,R⟩,rc,⟨cp',R'⟩,rc',m⟩:=h
   obtain⟨⟨x,c0,ws,hcall⟩,ch'⟩:=ch
   have hl:=Ax R.ds
   have hd:dsOf cps (s.length+1)=cp.ds:=dr R.at_
   have hd':dsOf cps s.length=cp'.ds:=dr R'.at_
   show MR X cps 0 (if f.ts.length<=f.k then dj n (cn f g::r) else f::g::r) (if (dsOf cps (s.length+1)).length=a.1 then unwP cps n (gz cps s.length a b::s) else a::b::s)
   have hk:=R.k
   have hle:=R.le
   by_cases z:f.ts.length<=f.k
   . rw[if_pos z,if_pos (by rw[hd];omega)]
     obtain⟨g1,g2,g3,g4,g5,g6,g7,g8⟩:=my f g
     have hrc:f.rc=ky ((dsOf cps s.length)[b.1]?):=rc
     refine MR.leave ⟨⟨cp',R'.at_,by rw[g8];exact R'.nm,by rw[g4];exact R'.res,by rw[g7];exact R'.ds,by rw[g3];exact R'.nd,by rw[g3];exact R'.mem,?_,by rw[g6];exact R'.k,?_⟩,?_,m⟩ (ChainP.head ch')
     . unfold cn gz
       rw[<- hrc]
       by_cases y:f.rc = ""
       . rw[if_pos y,if_pos y];exact R'.F
       . rw[if_neg y,if_neg y]
         show upF g.F f.rc (f.F f.res)=upF b.2 f.rc (a.2 (mw cps (s.length+1)))
         rw[R'.F,R.F,R.res,a68 (i:=s.length+1) R.at_]
     . show b.1+1<=cp'.ds.length
       rw[hd'] at hcall
       exact (Ao.mp hcall).1
     . cases s with
       | nil=>trivial
       | cons c s=>show (cn f g).rc=_;rw[g5];exact rc'
   . rw[if_neg z,if_neg (by rw[hd];omega)]
     exact⟨⟨cp,R⟩,rc,⟨cp',R'⟩,rc',m⟩
theorem ge {y:Str}(h:b9 y=true):y ≠ "" /\ y ≠ "nil" := ⟨fun z=>by rw[z] at h;exact absurd h (by decide +kernel),fun z=>by rw[z] at h;exact absurd h (by decide +kernel)⟩
theorem MR.chain {X:Hp}{cps:List Cp}{xs:List Str}(ok:ProgOk xs cps) (hx:∀x∈xs,b9 x=true):∀{j:Nat}{frs:List Fr}{s:PS},MR X cps j frs s->ChainP cps s->Chain frs
 | _,[],_,_,_=>trivial
 | _,[f],_,_,_=>trivial
 | _,f::g::r,[],h,_=>h.elim
 | _,f::g::r,[a],h,_=>h.2.2.elim
 | _,f::g::r,a::b::s,h,ch=>by
   obtain⟨⟨cp,R⟩,rc,h'⟩:=h
   refine⟨?_,MR.chain ok hx h' ch.2⟩
   obtain⟨⟨cp',R'⟩,_⟩:=id h'
   obtain⟨x,c0,ws,hcall⟩:=ch.1
   have hrc:f.rc=ky ((dsOf cps s.length)[b.1]?):=rc
   rw[hcall] at hrc
   rw[dr R'.at_] at hcall
   have hm:=Ar hcall
   by_cases y:f.rc = ""
   . exact .inl y
   . have hrx:f.rc=x:=hrc
     obtain⟨cp1,h1,_,_,h4⟩:=ok.link _ cp' R'.at_ x c0 ws hm
     have e:cp1=cp:=by
       have y:cps[s.length+1]? = some cp:=R.at_
       rw[h1] at y;exact Ay y
     subst e
     have nres:cp1.res ≠ "" := h4.resolve_left (by rw[<- hrx];exact y)
     have rx:=(ok.ok cp1 (Ar h1)).res.resolve_left nres
     have xx:x∈xs:=(show CdOk xs (.call x c0 ws) from (ok.ok cp' (Ar R'.at_)).ds _ hm).1.resolve_left (by rw[<- hrx];exact y)
     refine .inr ⟨by rw[R.res];exact (R.mem _).mpr ⟨nres,(ge (hx _ rx)).2,Al.mpr (.inl (Al.mpr (.inr (As.mpr rfl))))⟩,?_⟩
     rw[hrx]
     exact (R'.mem _).mpr ⟨(ge (hx _ xx)).1,(ge (hx _ xx)).2,Al.mpr (.inr (Dg.mpr ⟨_,hm,Ah⟩))⟩
theorem me {cps:List Cp}:∀{n:Nat}{s:PS},ChainP cps s->ChainP cps (unwP cps n s)
 | 0,s,h=>by
   cases s with
   | nil=>exact h
   | cons a s=>cases s with
     | nil=>exact h
     | cons=>exact h
 | n+1,[],h=>h
 | n+1,[a],h=>h
 | n+1,a::b::s,h=>by
   show ChainP cps (if _ then _ else _)
   split
   . exact me (ChainP.head h.2)
   . exact h
theorem r9 {cps:List Cp}:∀{n:Nat}{s:PS},s.length<=n->∀a b r,unwP cps n s=a::b::r->¬ (dsOf cps (r.length+1)).length=a.1
 | 0,[],_,a,b,r,h=>by cases h
 | n+1,[],_,a,b,r,h=>by cases h
 | n+1,[x],_,a,b,r,h=>by cases h
 | n+1,x::y::s,hl,a,b,r,h=>by
   have h':(if (dsOf cps (s.length+1)).length=x.1 then unwP cps n (gz cps s.length x y::s) else x::y::s)=a::b::r:=h
   by_cases z:(dsOf cps (s.length+1)).length=x.1
   . rw[if_pos z] at h'
     exact r9 (by simp only[AD] at hl |-;omega) a b r h'
   . rw[if_neg z] at h'
     cases h'
     exact z
noncomputable def gk (w:Nat) (ds:List Cd):Nat:=ds.length+(ds.filter Cd.isCall).length*w
noncomputable def wF (cps:List Cp):Nat->Nat->Nat
 | 0,_=>0
 | n+1,i=>gk (wF cps n (i+1)) (dsOf cps i)
noncomputable def remP (cps:List Cp) (i k:Nat):Nat:=gk (wF cps (4 - i) (i+1)) ((dsOf cps i).drop k)
noncomputable def lowP (cps:List Cp):PS->Nat
 | []=>0
 | b::s=>remP cps s.length (b.1+1)+lowP cps s
noncomputable def muP (cps:List Cp):PS->Nat
 | []=>0
 | a::s=>remP cps s.length a.1+lowP cps s
theorem xw {cps:List Cp}:∀{n:Nat}{s:PS},muP cps (unwP cps n s)=muP cps s
 | 0,s=>by
   cases s with
   | nil=>rfl
   | cons a s=>cases s with
     | nil=>rfl
     | cons=>rfl
 | n+1,[]=>rfl
 | n+1,[a]=>rfl
 | n+1,a::b::s=>by
   show muP cps (if (dsOf cps (s.length+1)).length=a.1 then unwP cps n (gz cps s.length a b::s) else a::b::s)=_
   by_cases z:(dsOf cps (s.length+1)).length=a.1
   . rw[if_pos z,xw]
     show remP cps s.length (b.1+1)+lowP cps s=remP cps (s.length+1) a.1+(remP cps s.length (b.1+1)+lowP cps s)
     have:remP cps (s.length+1) a.1=0:=by
       unfold remP
       rw[Gn (by omega)];simp[gk]
     omega
   . rw[if_neg z]
theorem a8x {cps:List Cp}{a:Nat×(Str->Int)}{s:PS}{d:Cd}(hd:(dsOf cps s.length)[a.1]? = some d) (h4:s.length<4):muP cps (dv cps (a::s))+1=muP cps (a::s):=by
 obtain⟨hlt,he⟩:=Ao.mp hd
 have hdrop:(dsOf cps s.length).drop a.1=d::(dsOf cps s.length).drop (a.1+1):=by rw[DS hlt,he]
 have hm:muP cps (a::s)=remP cps s.length a.1+lowP cps s:=rfl
 cases d with
 | set x e =>
   have hs:dv cps (a::s)=unwP cps (s.length+1) ((a.1+1,upF a.2 x (nilF a.2 e))::s):=by
     show (match (dsOf cps s.length)[a.1]? with
       | some (.set x e)=>unwP cps (s.length+1) ((a.1+1,upF a.2 x (nilF a.2 e))::s)
       | some (.call _ _ ws)=>unwP cps (s.length+2) ((0,cx (psOf cps (s.length+1)) ws a.2)::a::s)
       | none=>a::s)=_
     rw[hd]
   rw[hs,xw,hm]
   show remP cps s.length (a.1+1)+lowP cps s+1=_
   unfold remP
   rw[hdrop]
   unfold gk
   rw[AD,FQ (show ¬ (false=true) by decide)]
   omega
 | call x c ws =>
   have hs:dv cps (a::s)=unwP cps (s.length+2) ((0,cx (psOf cps (s.length+1)) ws a.2)::a::s):=by
     show (match (dsOf cps s.length)[a.1]? with
       | some (.set x e)=>unwP cps (s.length+1) ((a.1+1,upF a.2 x (nilF a.2 e))::s)
       | some (.call _ _ ws)=>unwP cps (s.length+2) ((0,cx (psOf cps (s.length+1)) ws a.2)::a::s)
       | none=>a::s)=_
     rw[hd]
   rw[hs,xw,hm]
   show remP cps (s.length+1) 0+(remP cps s.length (a.1+1)+lowP cps s)+1=_
   unfold remP
   rw[hdrop,Cr]
   have e4:wF cps (4 - s.length) (s.length+1)=gk (wF cps (4 - (s.length+1)) (s.length+1+1)) (dsOf cps (s.length+1)):=by
     rw[show 4 - s.length=(4 - (s.length+1))+1 by omega];rfl
   rw[<- e4]
   generalize wF cps (4 - s.length) (s.length+1)=W
   unfold gk
   rw[AD,FP (by rfl),AD,Nat.add_mul]
   omega
theorem a6v {xs:List Str}{cps:List Cp}(ok:∀c∈cps,CpOk xs c):∀n i,wF cps n i<=4*n
 | 0,_=>Aj _
 | n+1,i=>by
   show gk (wF cps n (i+1)) (dsOf cps i)<=_
   have ih:=a6v ok n (i+1)
   unfold gk dsOf
   cases h:cps[i]? with
   | none=>simp
   | some c =>
     have hc:=ok c (Ar h)
     have h1:=hc.len
     have h2:=hc.one
     show c.ds.length+(c.ds.filter Cd.isCall).length*wF cps n (i+1)<=_
     rcases Nat.le_one_iff_eq_zero_or_eq_one.mp h2 with z|z
     . rw[z];omega
     . rw[z];omega
theorem a6f {xs:List Str}{cps:List Cp}(ok:∀c∈cps,CpOk xs c) (F:Str->Int):muP cps [(0,F)]<=20:=by
 have:=a6v ok 5 0
 show gk (wF cps (4 - 0) (0+1)) ((dsOf cps 0).drop 0)+0<=20
 rw[Cr]
 exact this
theorem a84 {cps:List Cp}{a:Nat×(Str->Int)}{s:PS}(h:muP cps (a::s)=0):(dsOf cps s.length).length<=a.1:=by
 have h':remP cps s.length a.1+lowP cps s=0:=h
 have:((dsOf cps s.length).drop a.1).length=0:=by
   unfold remP gk at h'
   omega
 rw[Be] at this
 omega
theorem gh {x:Str}(h:b9 x=true):Short x:=by
 unfold b9 at h
 split at h
 . cases h
 . rename_i hn
   have:¬ 8<x.length:=fun z=>hn (.inr (.inl z))
   show x.length<=1000
   omega
theorem zr {ys:List Str}{f:Str->Int}:∀{zs:List Str},(∀z∈zs,z∈ys)->(ee (vK ys f) zs).map kk=vK zs f
 | [],_=>rfl
 | z::zs,h=>by
   have ih:=zr (f:=f) fun y hy=>h y (An _ hy)
   unfold ee vK at ih |-
   rw[AC,AC,AC,ih]
   have e:=ja (f:=f) (h z (Ah ..))
   unfold vK at e
   rw[e];rfl
theorem set_short:(("set" : Str)).length<=1000/\(("nil" : Str)).length<=1000/\(("" : Str)).length<=1000:=by decide +kernel
theorem je (b:Nat) (ds:List Cd):allL [b] (ds.map fun d=>Deed.plain (plC d))=ds.map fun d=>Deed.plain (plC d):=by
 show (ds.map fun d=>Deed.plain (plC d)).flatMap (allD (allL []))=_
 induction ds with
 | nil=>rfl
 | cons d ds ih=>rw[AC,Il,ih];rfl
theorem a9v (d:Cd):wrd (.plain (plC d))=dg d:=by
 have n1:kc "name" = true:=by decide +kernel
 have n2:kc "value" = true:=by decide +kernel
 cases d with
 | set x e=>show kr "set" [x,e]=[x,e];unfold kr;rw[iw lg xy];simp[zipF,n1,n2]
 | call x c ws=>rfl
theorem a9p {cp:Cp}:allW [30] (prcC cp)=gn cp:=by
 unfold allW gn
 have e:(allL [30] (prcC cp).body).flatMap wrd=cp.ds.flatMap dg:=by
   show (allL [30] (cp.ds.map fun d=>Deed.plain (plC d))).flatMap wrd=_
   rw[je,List.flatMap_map]
   congr 1
   funext d
   exact a9v d
 rw[e]
 show cp.ps++[cp.res]++words []++words []++cp.ds.flatMap dg=_
 simp[words]
theorem ig {xs:List Str}{cp:Cp}(ok:CpOk xs cp) (hx:∀x∈xs,b9 x=true) {y:Str}:(b9 y=true/\y∈allW [30] (prcC cp))↔(y ≠ "" /\ y ≠ "nil" /\ y∈gn cp):=by
 rw[a9p]
 constructor
 . rintro⟨h,hy⟩
   exact⟨(ge h).1,(ge h).2,hy⟩
 . rintro⟨h1,h2,hy⟩
   rcases jg ok hy with z|z|z
   . exact absurd z h1
   . exact absurd z h2
   . exact⟨hx y z,hy⟩
theorem yo {xs:List Str}{cp:Cp}(ok:CpOk xs cp) (hx:∀x∈xs,b9 x=true) (h6:xs.length=6):PrcOk [30] xs (prcC cp):=by
 have t0:TOk xs [] []:=⟨⟨by decide,fun r hr=>by cases hr⟩,⟨by decide,fun r hr=>by cases hr⟩,(fun r hr=>by cases hr),fun y hy=>by simp[words] at hy⟩
 have sE:∀{y:Str},y∈xs++[("nil" : Str)]->Short y:=fun hy=>(Al.mp hy).elim (fun z=>gh (hx _ z)) fun z=>by rw[As.mp z];exact set_short.2.1
 refine⟨⟨A0 ok.pl (by decide),fun y hy=>gh (hx y (ok.px y hy))⟩,?_,t0,t0,?_,?_,by omega,?_⟩
 . rcases ok.res with z|z
   . show Short cp.res;rw[z];exact set_short.2.2
   . exact gh (hx _ z)
 . show ∀d∈allL [30] (cp.ds.map fun d=>Deed.plain (plC d)),_
   rw[je]
   intro d hd
   obtain⟨e,he,rfl⟩:=A9.mp hd
   have oke:=ok.ds e he
   cases e with
   | set x e =>
     intro y hy
     have hy':y∈[("set" : Str),x,e]:=hy
     simp only[Aq,AE,or_false] at hy'
     rcases hy' with rfl|rfl|rfl
     . exact set_short.1
     . exact gh (hx _ oke.1)
     . exact sE oke.2
   | call x c ws=>exact⟨oke.1.elim (fun z=>by rw[z];exact set_short.2.2) fun z=>gh (hx _ z),A0 oke.2.2.1 (by decide),fun y hy=>sE (oke.2.2.2 y hy)⟩
 . show (allL [30] (cp.ds.map fun d=>Deed.plain (plC d))).length<=30
   rw[je,Ad];exact A0 ok.len (by decide)
 . intro y hy hn
   obtain⟨h1,h2,h3⟩:=(ig ok hx).mp ⟨hn,hy⟩
   rcases jg ok h3 with z|z|z
   . exact absurd z h1
   . exact absurd z h2
   . exact z
theorem PrcAt.keepC {K:Ab}{H H':Hp}{t:Addr}{cp:Cp}(h:PrcAt K H [30] t (prcC cp)) (e:∀b o,H b=some o->(∀kvs,o≠.dK kvs)->H' b=some o):PrcAt K H' [30] t (prcC cp):=by
 have eT:∀b vs,H b=some (.tup vs)->H' b=some (.tup vs):=fun b vs hb=>e _ _ hb fun _ z=>by cases z
 have eL:∀b vs,H b=some (.lst vs)->H' b=some (.lst vs):=fun b vs hb=>e _ _ hb fun _ z=>by cases z
 obtain⟨pt,t1,t2,f1,p1,f2,p2,bd,x⟩:=h
 have r0:∀{l:Addr},RowsAt K H l []->RowsAt K H' l []:=fun {l} h=>by
   obtain⟨as,h1,h2⟩:=h
   cases h2
   exact⟨[],eL _ _ h1,.nil⟩
 refine⟨pt,t1,t2,f1,p1,f2,p2,bd,eT _ _ x.tup,eT _ _ x.pt,eT _ _ x.t1,eT _ _ x.t2,r0 x.f1,r0 x.p1,r0 x.f2,r0 x.p2,?_,x.okn,x.okr,x.okp,x.ok1,x.ok2,x.l1,x.l2⟩
 obtain⟨ts,h1,h2,h3⟩:=x.body
 refine⟨ts,eL _ _ h1,?_,h3⟩
 have:∀(ts:List Addr) (ds:List Cd),Paired (DeedX K H (ListX K H [])) ts (ds.map fun d=>Deed.plain (plC d))->Paired (DeedX K H' (ListX K H' [])) ts (ds.map fun d=>Deed.plain (plC d)):=fun ts ds=>by
   induction ds generalizing ts with
   | nil=>intro h;cases h;exact .nil
   | cons d ds ih =>
     intro h
     cases h with
     | cons a r =>
       refine .cons ?_ (ih _ r)
       cases a with
       | plain p h1 h2=>exact .plain _ (h1.keepT eT) h2
 exact this ts cp.ds h2
theorem a6d {K:Ab}{X:Hp}{ts:List Addr}{ds:List Cd}(h:Paired (DeedX K X (ListX K X [])) ts (ds.map fun d=>Deed.plain (plC d))):Paired (fun t d=>PlAt X t (plC d)) ts ds:=by
 induction ds generalizing ts with
 | nil=>cases h;exact .nil
 | cons d ds ih =>
   cases h with
   | cons a r =>
     refine .cons ?_ (ih r)
     cases a with
     | plain p h1 h2=>exact h1
theorem kq:∀{n:Nat}{frs:List Fr},∀f∈dj n frs,f.p∈frs.map (·.p)/\f.nd∈frs.map (·.nd)
 | 0,frs,f,hf=>by
   have hf':f∈frs:=by cases frs with
     | nil=>exact hf
     | cons a r=>cases r with
       | nil=>exact hf
       | cons=>exact hf
   exact⟨AH hf',AH hf'⟩
 | n+1,[],f,hf=>by cases hf
 | n+1,[a],f,hf=>⟨AH hf,AH hf⟩
 | n+1,a::b::r,f,hf=>by
   have hf':f∈(if a.ts.length<=a.k then dj n (cn a b::r) else a::b::r):=hf
   by_cases z:a.ts.length<=a.k
   . rw[if_pos z] at hf'
     obtain⟨g1,g2,_⟩:=my a b
     obtain⟨h1,h2⟩:=kq f hf'
     rw[AC,g2] at h1
     rw[AC,g1] at h2
     exact⟨An _ h1,An _ h2⟩
   . rw[if_neg z] at hf'
     exact⟨AH hf',AH hf'⟩
structure BS (K:Ab) (CF:Addr) (X H:Hp) (cps:List Cp) (fl cl:Addr) (frs:List Fr) (cs:List Lc) (s:PS):Prop where
 S:StAt K CF X H fl frs
 L:LSt X H cps cl cs
 mr:MR X cps 0 frs s
 ab:absL cs=s
 ch:ChainP cps s
 en:∀a b r,s=a::b::r->¬ (dsOf cps (r.length+1)).length=a.1
 ne:s≠[]
 n1:fl≠cl
 n2:fl∉cs.map (·.ce)
 n3:∀f∈frs,f.nd∉cs.map (·.vd)
theorem BS.same {K:Ab}{CF:Addr}{X H H':Hp}{cps:List Cp}{fl cl:Addr}{frs:List Fr}{cs:List Lc}{s:PS}(h:BS K CF X H cps fl cl frs cs s) (e:Same H H'):BS K CF X H' cps fl cl frs cs s:=⟨h.S.same e,h.L.same e,h.mr,h.ab,h.ch,h.en,h.ne,h.n1,h.n2,h.n3⟩
theorem LSt.keepS {K:Ab}{CF:Addr}{X H H':Hp}{cps:List Cp}{fl cl:Addr}{frs frs':List Fr}{cs:List Lc}{s:PS}(h:BS K CF X H cps fl cl frs cs s) (kp:KpS fl frs H H') (S':StAt K CF X H' fl frs'):LSt X H' cps cl cs:=by
 have ins:∀{b:Addr} {o:HO},H b=some o->(∀C d f,o≠.ins C d f)->b∉frs.map (·.p):=fun hb ho z=>by
   obtain⟨f,hf,e⟩:=A9.mp z
   have y:=(h.S.fr f hf).hp
   rw[e,hb] at y
   exact ho _ _ _ (Ay y)
 have dic:∀{b:Addr} {l:List V},H b=some (.lst l)->b∉frs.map (·.nd):=fun hb z=>by
   obtain⟨f,hf,e⟩:=A9.mp z
   have y:=(h.S.fr f hf).hnd
   rw[e,hb] at y;cases y
 refine⟨S'.sX,h.L.xl,kp _ _ h.L.hcl (Br h.n1) (ins h.L.hcl fun _ _ _ z=>by cases z) (dic h.L.hcl),h.L.at_.keep fun c hc=>?_,h.L.ne,h.L.nc,h.L.nv⟩
 obtain⟨i,a⟩:=h.L.at_.mem c hc
 refine⟨(kp _ _ a.hc (fun z=>h.n2 (by rw[<- z];exact AH hc)) (ins a.hc fun _ _ _ z=>by cases z) (dic a.hc)).trans a.hc.symm,(kp _ _ a.hv (fun z=>by have y:=a.hv;rw[z,h.S.hfl] at y;cases y) (ins a.hv fun _ _ _ z=>by cases z) fun z=>?_).trans a.hv.symm⟩
 obtain⟨f,hf,e⟩:=A9.mp z
 exact h.n3 f hf (by rw[e];exact AH hc)
theorem StAt.keepL {K:Ab}{CF:Addr}{X H H':Hp}{cps:List Cp}{fl cl:Addr}{frs:List Fr}{cs cs':List Lc}(S:StAt K CF X H fl frs) (L:LSt X H cps cl cs) (n1:fl≠cl) (n2:fl∉cs.map (·.ce)) (n3:∀f∈frs,f.nd∉cs.map (·.vd)) (kp:KpL cl cs H H') (L':LSt X H' cps cl cs'):StAt K CF X H' fl frs:=by
 have lst:∀{b:Addr} {o:HO},H b=some o->(∀l,o≠.lst l)->b≠cl/\b∉cs.map (·.ce):=fun hb ho=>⟨fun z=>by rw[z,L.hcl] at hb;exact ho _ (Ay hb).symm,fun z=>by
   obtain⟨c,hc,e⟩:=A9.mp z
   obtain⟨i,a⟩:=L.at_.mem c hc
   have y:=a.hc
   rw[e,hb] at y;exact ho _ (Ay y)⟩
 have dic:∀{b:Addr} {o:HO},H b=some o->(∀l,o≠.dK l)->b∉cs.map (·.vd):=fun hb ho z=>by
   obtain⟨c,hc,e⟩:=A9.mp z
   obtain⟨i,a⟩:=L.at_.mem c hc
   have y:=a.hv
   rw[e,hb] at y;exact ho _ (Ay y)
 refine⟨L'.sX,S.xf,kp _ _ S.hfl n1 n2 (dic S.hfl fun _ z=>by cases z),fun f hf=>?_,S.np,S.nn⟩
 have a:=S.fr f hf
 refine a.keep fun b o hb w=>?_
 rcases w with rfl|rfl|w
 . have e:o=_:=Ay (hb.symm.trans a.hp)
   obtain⟨y1,y2⟩:=lst hb fun l z=>by rw[e] at z;cases z
   exact kp _ _ hb y1 y2 (dic hb fun l z=>by rw[e] at z;cases z)
 . have e:o=_:=Ay (hb.symm.trans a.hnd)
   obtain⟨y1,y2⟩:=lst hb fun l z=>by rw[e] at z;cases z
   exact kp _ _ hb y1 y2 (n3 f hf)
 . obtain⟨y1,y2⟩:=lst hb w.2.2
   exact kp _ _ hb y1 y2 (dic hb w.2.1)
theorem wk {cps:List Cp}:∀{n:Nat}{s:PS},s≠[]->unwP cps n s≠[]
 | 0,[],h=>absurd rfl h
 | 0,a::s,_=>by
   cases s with
   | nil=>intro z;cases z
   | cons=>intro z;cases z
 | n+1,[],h=>absurd rfl h
 | n+1,[a],_=>by intro z;cases z
 | n+1,a::b::s,_=>by
   show (if _ then _ else _)≠_
   split
   . exact wk (by intro z;cases z)
   . intro z;cases z
theorem vz {cps:List Cp}{a:Nat×(Str->Int)}{s:PS}{x e:Str}(hd:(dsOf cps s.length)[a.1]? = some (.set x e)):dv cps (a::s)=unwP cps (s.length+1) ((a.1+1,upF a.2 x (nilF a.2 e))::s):=by
 show (match (dsOf cps s.length)[a.1]? with
   | some (.set x e)=>unwP cps (s.length+1) ((a.1+1,upF a.2 x (nilF a.2 e))::s)
   | some (.call _ _ ws)=>unwP cps (s.length+2) ((0,cx (psOf cps (s.length+1)) ws a.2)::a::s)
   | none=>a::s)=_
 rw[hd]
theorem sv {cps:List Cp}{a:Nat×(Str->Int)}{s:PS}{x c:Str}{ws:List Str}(hd:(dsOf cps s.length)[a.1]? = some (.call x c ws)):dv cps (a::s)=unwP cps (s.length+2) ((0,cx (psOf cps (s.length+1)) ws a.2)::a::s):=by
 show (match (dsOf cps s.length)[a.1]? with
   | some (.set x e)=>unwP cps (s.length+1) ((a.1+1,upF a.2 x (nilF a.2 e))::s)
   | some (.call _ _ ws)=>unwP cps (s.length+2) ((0,cx (psOf cps (s.length+1)) ws a.2)::a::s)
   | none=>a::s)=_
 rw[hd]
theorem a0b {cps:List Cp}{a:Nat×(Str->Int)}{s:PS}{d:Cd}(hd:(dsOf cps s.length)[a.1]? = some d) (ch:ChainP cps (a::s)):ChainP cps (dv cps (a::s))/\(∀x y r,dv cps (a::s)=x::y::r->¬ (dsOf cps (r.length+1)).length=x.1)/\dv cps (a::s)≠[]:=by
 cases d with
 | set x e =>
   rw[vz hd]
   exact⟨me (ChainP.head ch),r9 (by rw[AD];exact Aj _),wk (by intro z;cases z)⟩
 | call x c ws =>
   rw[sv hd]
   exact⟨me ⟨⟨x,c,ws,hd⟩,ch⟩,r9 (by rw[AD,AD];exact Aj _),wk (by intro z;cases z)⟩
theorem BS.step {K:Ab}{CM CF:Addr}{X H:Hp}{cps:List Cp}{m dm pd fl cd cl:Addr}{fm:List (Str×V)}{g:Int}{prs:List Addr}{xs:List Str}{frs:List Fr}{cs:List Lc}{a:Nat×(Str->Int)}{s:PS}{d:Cd}{Q:VK}{E:XK}(B:BS K CF X H cps fl cl frs cs (a::s)) (hm:X m=some (.ins CM dm fm)) (hM:MFs fm pd fl cd g false) (hpd:X pd=some (.dK ((byK (cps.map (·.name)) prs).map kk))) (hps:Paired (fun t c=>PrcAt K X [30] t (prcC c)) prs cps) (ok:ProgOk xs cps) (hx:∀x∈xs,b9 x=true) (h6:xs.length=6) (h4:cps.length<=4) (hd:(dsOf cps s.length)[a.1]? = some d)
   (q:∀H' frs',StAt K CF X H' fl frs'->MR X cps 0 frs' (dv cps (a::s))->LSt X H' cps cl cs->(∀f∈frs',f.nd∉cs.map (·.vd))->Q .non H'):spStep K CM CF [.ref m] H Q E:=by
 obtain⟨f,r,rfl⟩:∃f r,frs=f::r:=by
   cases frs with
   | nil=>exact B.mr.elim
   | cons f r=>exact⟨f,r,rfl⟩
 obtain⟨⟨cp,R⟩,rc,mr'⟩:=id B.mr
 have hrl:=mr'.len
 have hsl:=(Ao.mp R.at_).1
 rw[dr R.at_] at hd
 have hk:=R.k
 have cok:=ok.ok cp (Ar R.at_)
 have cl4:=cok.len
 have hle:=R.le
 obtain⟨td,htd⟩:∃x,f.ts[f.k]? = some x:=⟨_,Af (by rw[Ax R.ds];have:=(Ao.mp hd).1;omega)⟩
 have pd':PlAt X td (plC d):=Paired.at2 (F:=fun t d=>PlAt X t (plC d)) R.ds htd (by rw[hk];exact hd)
 have dmem:=Ar hd
 have dok:=cok.ds d dmem
 have hd0:(dsOf cps s.length)[a.1]? = some d:=by rw[dr R.at_];exact hd
 have hasN:∀{y:Str},y∈dg d->y∈xs->y∈f.ys:=fun {y} hy hyx=>(R.mem y).mpr ⟨(ge (hx y hyx)).1,(ge (hx y hyx)).2,Al.mpr (.inr (Dg.mpr ⟨d,dmem,hy⟩))⟩
 have hasE:∀{y:Str},y∈dg d->y∈xs++[("nil" : Str)]->y∈f.ys++[("nil" : Str)]:=fun hy hyx=>Al.mpr ((Al.mp hyx).imp (hasN hy) id)
 have ch:=MR.chain ok hx B.mr B.ch
 have oldV:∀{b:Addr},H b=none->b∉cs.map (·.vd):=fun hb z=>by
   obtain⟨c,hc,e⟩:=A9.mp z
   obtain⟨i,y⟩:=B.L.at_.mem c hc
   have y:=y.hv
   rw[e,hb] at y;cases y
 cases d with
 | set x e =>
   refine .on X m dm pd fl cd td fm g f r "set" [.str x,.str e] rfl hm hM B.S ch (by omega) htd (by omega) pd' (.set x e (hasN Ah dok.1) (hasE (An _ Ah) dok.2) fun H' pt' fs' S' kp=>?_)
   refine q H' _ S' ?_ (LSt.keepS B kp S') fun b hb=>?_
   . rw[vz hd0,hrl]
     refine MR.leave ⟨⟨cp,R.at_,R.nm,R.res,R.ds,R.nd,R.mem,?_,?_,?_⟩,rc,mr'⟩ (ChainP.head B.ch)
     . show upF f.F x (nilF f.F e)=_;rw[R.F]
     . show f.k+1=a.1+1+0;omega
     . exact (Ao.mp hd).1
   . obtain⟨_,h2⟩:=kq b hb
     obtain⟨b',hb',e'⟩:=A9.mp h2
     rw[<- e']
     rcases Aq.mp hb' with rfl|hb'
     . exact B.n3 f Ah
     . exact B.n3 b' (An _ hb')
 | call x c ws =>
   obtain⟨v,pt1,pv⟩:=pd'
   obtain⟨cp1,hcp1,hnm,hwl,hres⟩:=ok.link _ cp R.at_ x c ws dmem
   have cok1:=ok.ok cp1 (Ar hcp1)
   obtain⟨pr',hpr'⟩:∃x,prs[s.length+1]? = some x:=⟨_,Af (by rw[Ax hps];exact (Ao.mp hcp1).1)⟩
   have hpc:=Paired.at2 (F:=fun t c=>PrcAt K X [30] t (prcC c)) hps hpr' hcp1
   have hval:valV ((byK (cps.map (·.name)) prs).map kk) (Sum.inr c)=some (.ref pr'):=by
     rw[hnm]
     exact qu (j:=s.length+1) ok.nn (by rw[Ai,hcp1];rfl) hpr'
   have hg:x = "" \/ ((b9 (prcC cp1).res=true/\(prcC cp1).res∈allW [30] (prcC cp1))/\x∈f.ys):=by
     by_cases y:x = ""
     . exact .inl y
     . have nres:=hres.resolve_left y
       have rx:=cok1.res.resolve_left nres
       exact .inr ⟨(ig cok1 hx).mpr ⟨nres,(ge (hx _ rx)).2,Al.mpr (.inl (Al.mpr (.inr (As.mpr rfl))))⟩,hasN Ah (dok.1.resolve_left y)⟩
   refine .on X m dm pd fl cd td fm g f r "call" [.str x,.str c,.ref v] rfl hm hM B.S ch (by omega) htd (by omega) pt1 (.call v pr' x c ws xs _ (prcC cp1) pv (fun w hw=>hasE (An _ hw) (dok.2.2.2 w hw)) hpd hval hpc (yo cok1 hx h6) hwl cok1.pn hg fun H' pt' fs' n S' h1 h2 h3 hk0 h5 h7 h8 h9 h10 h11 h12 kp=>?_)
   refine q H' _ S' ?_ (LSt.keepS B kp S') fun b hb=>?_
   . rw[sv hd0,hrl,a8y hcp1]
     refine MR.leave ⟨⟨cp1,hcp1,h3,h2,a6d h7,h8,fun y=>(h9 y).trans (ig cok1 hx),?_,by rw[hk0],A8 _⟩,?_,⟨cp,R.at_,R.nm,R.res,R.ds,R.nd,R.mem,R.F,?_,hle⟩,rc,mr'⟩ ⟨⟨x,c,ws,hd0⟩,B.ch⟩
     . rw[h10,R.F];rfl
     . show n.rc=ky ((dsOf cps s.length)[a.1]?)
       rw[hd0,h1];rfl
     . show f.k+1=a.1+1;omega
   . obtain⟨_,g2⟩:=kq b hb
     obtain⟨b',hb',e'⟩:=A9.mp g2
     rw[<- e']
     rcases Aq.mp hb' with rfl|hb'
     . exact oldV h12
     . rcases Aq.mp hb' with rfl|hb'
       . exact B.n3 f Ah
       . exact B.n3 b' (An _ hb')
theorem BS.stepL {K:Ab}{CF:Addr}{X H:Hp}{cps:List Cp}{fl cl l:Addr}{ts:List Addr}{xs:List Str}{frs:List Fr}{cs:List Lc}{a:Nat×(Str->Int)}{s:PS}{d:Cd}{Q:VK}{E:XK}(S:StAt K CF X H fl frs) (mr:MR X cps 0 frs (dv cps (a::s))) (L:LSt X H cps cl cs) (ab:absL cs=a::s) (ch:ChainP cps (a::s)) (n1:fl≠cl) (n2:fl∉cs.map (·.ce)) (n3:∀f∈frs,f.nd∉cs.map (·.vd)) (hl:X l=some (.lst (ts.map V.ref))) (hp:Paired (fun t c=>PrcAt K X [30] t (prcC c)) ts cps) (ok:ProgOk xs cps) (hx:∀x∈xs,b9 x=true) (h6:xs.length=6) (h4:cps.length<=4) (hd:(dsOf cps s.length)[a.1]? = some d)
   (q:∀H' cs',BS K CF X H' cps fl cl frs cs' (dv cps (a::s))->Q .non H'):spStepL K [.ref l,.ref cl] H Q E:=by
 obtain⟨c,cs0,rfl⟩:∃c r,cs=c::r:=by
   cases cs with
   | nil=>cases ab
   | cons c r=>exact⟨c,r,rfl⟩
 have eN:cs0.length=s.length:=by
   have y:=congrArg Ji ab
   unfold absL at y
   rw[Ad] at y
   simpa using y
 have eK:c.k=a.1:=by
   have y:(c.k,c.F)::absL cs0=a::s:=ab
   exact congrArg Prod.fst (Es y).1
 refine .mk X l cl ts cps xs c cs0 d rfl hl hp ok hx h6 h4 L (by rw[eN,eK];exact hd) (by rw[ab];exact ch) fun H' cs' L' ab' kp fr=>?_
 rw[ab] at ab'
 obtain⟨k1,k2,k3⟩:=a0b hd ch
 refine q H' cs' ⟨S.keepL L n1 n2 n3 kp L',L',mr,ab',k1,k2,k3,n1,fun z=>?_,fun f hf z=>?_⟩
 . obtain⟨b,hb,e⟩:=A9.mp z
   rcases (fr b hb).1 with w|w
   . exact n2 (by rw[<- e];exact w)
   . have y:=S.hfl
     rw[<- e,w] at y;cases y
 . obtain⟨b,hb,e⟩:=A9.mp z
   rcases (fr b hb).2 with w|w
   . exact n3 f hf (by rw[<- e];exact w)
   . have y:=(S.fr f hf).hnd
     rw[<- e,w] at y;cases y
end K52
namespace L2
open PySem PySem.Spec
theorem a5a {l:Addr}{xs:List V}{g:TG}{tb:TS}{D:Ends}{σ:St}{H:Hp}(Pv:Nat->St->Hp->Prop) (h0:Pv 0 σ H) (hl:∀i σ H,Pv i σ H->H l=some (.lst xs))
   (hs:∀i x σ H p,xs[i]? = some x->Pv i σ H->H p=none->g (.ref p) σ (upd H p (.tup [.int (i:Nat),x])) fun σ2 H2=>tb { D with nx:=Pv (i+1),ct:=Pv (i+1),bk:=D.nx } σ2 H2) (hd:∀σ H,Pv xs.length σ H->D.nx σ H) :
   ∃W:Nat->Nat->St->Hp->Prop,(∃m,W 0 m σ H)/\∀i m σ H,W i m σ H->
     ((Ite l).stop i H/\D.nx σ H)\/((Ite l).go i H/\∃N:St->Hp->Prop,(∀σ' H',N σ' H'->∃m',m'<m/\W (i+1) m' σ' H')/\∀x H',(Ite l).yld i H x H'->g x σ H' fun σ2 H2=>tb { D with nx:=N,ct:=N,bk:=D.nx } σ2 H2):=by
 refine⟨fun i m σ H=>m=xs.length - i/\i<=xs.length/\Pv i σ H,⟨xs.length,by simp,A8 _,h0⟩,?_⟩
 rintro i m σ H ⟨rfl,hi,p⟩
 have q1:=hl i σ H p
 by_cases hlt:i<xs.length
 . refine .inr ⟨⟨xs,xs[i],q1,by simp[hlt]⟩,Pv (i+1),fun σ' H' p'=>⟨xs.length - (i+1),by omega,rfl,hlt,p'⟩,fun x H' y=>?_⟩
   obtain⟨xs',x',p',g1,g2,hn,rfl,rfl⟩:=y
   rw[q1] at g1
   cases g1
   exact hs i x' σ H p' g2 p hn
 . have e:i=xs.length:=by omega
   subst e
   exact .inl ⟨⟨xs,q1,Aj _⟩,hd σ H p⟩
end L2
namespace K52
open PySem PySem.Spec L2 Mir
variable {P:Program}{w:World}{K:Ab}{mg:Str->Option Value}{base:Heap}{f g gS gN gA gW gI gL gF gO gT gB C fI CM CF fJ gD gR gU gM gH gE gC gK gX gP:Addr}{fd gd dS dN dA dW dI dL dF dO dT dB dD dR dU dM dH dE dC dK dX dP:FuncData}
theorem ub {α β γ:Type}{R:α->γ->Prop}{g:β->γ}:∀{xs:List α}{ys:List β},Paired (fun x y=>R x (g y)) xs ys->Paired R xs (ys.map g)
 | _,_,.nil=>.nil
 | _,_,.cons h r=>.cons h (ub r)
theorem om {α β γ:Type}{R:α->γ->Prop}{g:β->γ}:∀{xs:List α}{ys:List β},Paired R xs (ys.map g)->Paired (fun x y=>R x (g y)) xs ys
 | _,[],.nil=>.nil
 | _,_::_,.cons h r=>.cons h (om r)
noncomputable abbrev sLaw:Stmt:=top 45
theorem scLaw:FnScope ["_law_script","_law_names_here","_law_many","_law_program_here","_law_values","_law_k","_law_name","_law_cell","_law_machine","_law_calls","_law_turn"] ["_law_script"] (aq sLaw):=⟨rfl,rfl,rfl,by decide +kernel,rfl,by decide +kernel,by decide +kernel⟩
theorem a9e {n:Nat}(hn8:8<=n) (C:Con K mg w) (T:TxM K mg CM fI) (U:TxF K mg CF fJ) (F:Fun K "law" "law" sLaw f fd)
   (GC:FnOk P w K mg base CX0 1 gC dC ["_law_script","_law_k"] (qy K)) (cC:Cal K mg "_law_cell_at" gC dC ["_law_script","_law_k"])
   (GN:FnOk P w K mg base CX0 3 gN dN ["_law_base","_law_place","_law_many"] spNm) (cN:Cal K mg "_law_names" gN dN ["_law_base","_law_place","_law_many"])
   (GP:FnOk P w K mg base CX0 3 gP dP ["_law_script","_law_names_here","_law_many"] (spProg K)) (cP:Cal K mg "_law_program" gP dP ["_law_script","_law_names_here","_law_many"])
   (GA:FnOk P w K mg base CX0 1 gA dA ["_law_procedure"] (spSaid K)) (cA:Cal K mg "_law_said" gA dA ["_law_procedure"])
   (GL:FnOk P w K mg base CX0 2 gL dL ["_law_program_here","_law_calls"] (spStepL K)) (cL:Cal K mg "_law_step" gL dL ["_law_program_here","_law_calls"])
   (GT:FnOk P w K mg base CX0 7 gT dT ["_law_machine","_law_program_here","_law_calls"] (spStands K CM CF)) (cT:Cal K mg "_law_stands" gT dT ["_law_machine","_law_program_here","_law_calls"])
   (GI:FnOk P w K mg base CX0 n fI dI ["self","program","name","path","values","heap"] (spMInit K CM CF [30])) (bI:Binds K dI ["self","program","name","path","values","heap"] [])
   (GS:FnOk P w K mg base CX0 8 gS dS ["self"] (spStep K CM CF)) (cS:MCal K CM "step" gS dS ["self"]) (GW:FnOk P w K mg base CX0 5 gW dW ["self"] (spWord K CM CF)) (cW:MCal K CM "word" gW dW ["self"]):FnOk P w K mg base CX0 (n+1+1) f fd ["_law_script"] (uq K):=by
 refine F.okQ scLaw (fun vs H Q E h=>?_) (fun cdv A outer s0 H vs Q E hr h=>?_)
 . obtain⟨_,_,rfl,_⟩:=h;rfl
 have nd:=scLaw.nd
 have hu1:=dw hr
 have hr1:=hr.mono (j:=1) (by omega)
 have hr2:=hr.mono (j:=2) (by omega)
 have hr3:=hr.mono (j:=3) (by omega)
 have hr5:=hr.mono (j:=5) (by omega)
 have hr7:=hr.mono (j:=7) (by omega)
 have hr8:=hr.mono (j:=8) (by omega)
 refine⟨_,af (aw (i:=1) nd rfl (Or.inl rfl) (ar GN hr3 rfl cN.name cN.keep cN.bind .nil ap (b5 (ar GC hr1 rfl cC.name cC.keep cC.bind .nil ap (ak (qv 0) (bj ad))) (b5 (ar GC hr1 rfl cC.name cC.keep cC.bind .nil ap (ak (qv 0) (bj ad))) (bj ad)))))
   (af (aw (i:=2) nd rfl (Or.inl rfl) (ax bm ac (ax cv (ar GC hr1 rfl cC.name cC.keep cC.bind .nil ap (ak (qv 0) (bj ad))) ac)))
   (af (aw (i:=3) nd rfl (Or.inl rfl) (ar GP hr3 rfl cP.name cP.keep cP.bind .nil ap (ak (qv 0) (ak (qv 1) (ak (qv 2) ad)))))
   (af (aw (i:=4) nd rfl (Or.inl rfl) jw)
   (af (c8 AM rfl (a8p rfl C.enumerate (b5 (ar GA hr1 rfl cA.name cA.keep cA.bind .nil ap (av (ah (ixK (K:=K) rfl) (qv 3) ac (fun _ _=>rfl)) ad)) ad)) (zx (b8 (i:=5) nd rfl (Or.inl rfl)) (b8 (i:=6) nd rfl (Or.inl rfl))) (af (aw (i:=7) nd rfl (Or.inl rfl) (ar GC hr1 rfl cC.name cC.keep cC.bind .nil ap (ak (qv 0) (fc (ax bm ac (qv 5)) ad))))
   (ai (cm hu1 (qv 4) (qv 6) (ah (ixK (K:=K) rfl) (br (bj (bj (bj (fc (ax cv (ax gu (qv 7) ac) (ax aag ac ac)) ad))))) (ax cv (qv 7) ac) (fun _ _=>rfl))))))
   (af (aw (i:=8) nd rfl (Or.inl rfl) (rg T.mkC GI hr rfl T.mgC bI .nil ap (ak (qv 3) (av (ah (ixTK (K:=K) rfl) (ah (ixK (K:=K) rfl) (qv 3) ac (fun _ _=>rfl)) ac (fun _ _=>rfl)) (gx (bj ad) (b5 (be j6 rfl C.dict BW (ak (qv 4) ad)) (cg jw ad)))))))
   (af (aw (i:=9) nd rfl (Or.inl rfl) (br (mj (bj (bj (ak (qv 4) ad))) ad)))
   (af (c8 AM rfl (fi rfl C.range (bj ad)) (b8 (i:=10) nd rfl (Or.inl rfl)) (af (bf (wy (ir (ar GT hr7 rfl cT.name cT.keep cT.bind .nil ap (ak (qv 8) (ak (qv 3) (ak (qv 9) ad)))))) (ai (b0 ib)) bo)
   (af (bx (cy (qv 8) T.cl cS.meth GS hr8 cS.bind .nil ap))
   (ai (bf (QW.qt (nk (ay qh (bc (lenK (K:=K) rfl) rfl C.len Bk (ak (qv 9) ad)) ac (az _)) (r6 (ay um (ah (ixK (K:=K) rfl) (ah (ixK (K:=K) rfl) (qv 9) ac (fun _ _=>rfl)) ac (fun _ _=>rfl)) (bc (lenK (K:=K) rfl) rfl C.len Bk (av (ah (ixTK (K:=K) rfl) (ah (ixK (K:=K) rfl) (qv 3) ac (fun _ _=>rfl)) ac (fun _ _=>rfl)) ad)) (az _))))) (ai (bx (ar GL hr2 rfl cL.name cL.keep cL.bind .nil ap (ak (qv 3) (ak (qv 9) ad))))) bo)))))
   (ai (b0 (aam (rl bp (cy (qv 8) T.cl cW.meth GW hr5 cW.bind .nil ap) b6 (az _)) (aae (ar GT hr7 rfl cT.name cT.keep cT.bind .nil ap (ak (qv 8) (ak (qv 3) (ak (qv 9) ad))))))))))))))),?_⟩
 obtain⟨a,ns,rfl,hS,q⟩:=h
 have modN:∀(x:Int) (m:Int),0<m->∃j:Nat,x % m=(j:Int)/\(j:Int)<m:=fun x m hm=>⟨(x % m).toNat,by have:=Bz x (DE hm);omega,by have:=Bz x (DE hm);have:=BE x hm;omega⟩
 refine ao (a:=tAsg _ _) fun A1 hA1 _ _=>?_
 refine⟨_,rfl,a,ns,0,rfl,hS,_,rfl,a,ns,1,rfl,hS,.mk _ _ 6 rfl (by decide) fun nl xs H1 e1 knl hxl hxn hxs=>?_⟩
 refine hA1 [some (.ref a),some (.ref nl),none,none,none,none,none,none,none,none,none] _ ?_
 clear hA1
 refine ao (a:=tAsg _ _) fun A2 hA2 _ _=>?_
 refine⟨_,rfl,a,ns,2,rfl,e1.seq hS,_,_,rfl,rfl,(show (0:Int)<4 by decide),_,_,rfl,rfl,?_⟩
 obtain⟨j,hj,hj4⟩:=modN (i4 ns 2) 4 (by decide)
 dsimp only[b7]
 rw[hj,show (1:Int)+(j:Int)=((1+j:Nat):Int) by omega]
 obtain⟨k,hk,hk1,hk4⟩:∃k:Nat,1+j=k/\1<=k/\k<=4:=⟨_,rfl,by omega,by omega⟩
 rw[hk]
 refine hA2 [some (.ref a),some (.ref nl),some (.int (k:Int)),none,none,none,none,none,none,none,none] _ ?_
 clear hA2
 refine ao (a:=tAsg _ _) fun A3 hA3 _ _=>?_
 refine⟨_,rfl,_,rfl,_,rfl,.mk a nl ns xs k rfl (e1.seq hS) knl hxl hxn hxs hk4 fun l ts cps H2 e2 nl2 kl prp hcl pok=>?_⟩
 refine hA3 [some (.ref a),some (.ref nl),some (.int (k:Int)),some (.ref l),none,none,none,none,none,none,none] _ ?_
 clear hA3
 have hlt:=Ax prp
 obtain⟨cp0,hcp0⟩:∃c,cps[0]? = some c:=⟨_,Af (by omega)⟩
 obtain⟨t0,ht0⟩:∃t,ts[0]? = some t:=⟨_,Af (by omega)⟩
 have pa0:=Paired.at2 (F:=fun t c=>PrcAt K H2 [30] t (prcC c)) prp ht0 hcp0
 have cok0:=pok.ok cp0 (Ar hcp0)
 have at0':atI (ts.map V.ref) 0=some (.ref t0):=bn (j:=0) (by rw[Ai,ht0];rfl)
 refine ao (a:=tAsg _ _) fun A4 hA4 _ _=>?_
 intro vd hvd
 have s3:=ag hvd (.dK [])
 have k3:(upd H2 vd (.dK [])) vd=some (.dK (vK [] fun _=>0)):=aa
 generalize upd H2 vd (.dK [])=H3 at s3 k3 |-
 refine hA4 [some (.ref a),some (.ref nl),some (.int (k:Int)),some (.ref l),some (.ref vd),none,none,none,none,none,none] _ ?_
 clear hA4
 refine ao (a:=tFor _ _ _) fun A5 hA5 _ _=>?_
 refine⟨_,rfl,l,_,0,.ref t0,rfl,rfl,SqL.of (s3 _ _ kl),at0',.mk t0 cp0 xs rfl (pa0.same s3) cok0 hxl fun zl zs H4 e4 nzl kzl zn zm=>?_⟩
 refine⟨zl,_,rfl,kzl,?_⟩
 have nzv:zl≠vd:=fun z=>by rw[z,k3] at nzl;cases nzl
 have zl6:zs.length<=6:=by
   have:=w8 zn (xs:=xs) fun y hy=>by
     obtain⟨h1,h2,h3⟩:=(zm y).mp hy
     rcases jg cok0 h3 with z|z|z
     . exact absurd z h1
     . exact absurd z h2
     . exact z
   omega
 refine a5a (xs:=zs.map V.str) (fun i σ G=>∃(F0:Str->Int) (z5 z6 z7:Option V),σ=[some (.ref a),some (.ref nl),some (.int (k:Int)),some (.ref l),some (.ref vd),z5,z6,z7,none,none,none]/\Same H2 G/\G zl=some (.lst (zs.map V.str))/\G vd=some (.dK (vK (zs.take i) F0))) ⟨fun _=>0,none,none,none,rfl,s3.trans e4,kzl,by rw[BL];exact e4 _ _ k3⟩ ?_ ?_ ?_
 . rintro i σ G ⟨F0,z5,z6,z7,rfl,eG,kz,kv⟩
   exact kz
 . rintro i x σ G p hx ⟨F0,z5,z6,z7,rfl,eG,kz,kv⟩ hp
   rw[Ai] at hx
   obtain⟨y,hy,rfl⟩:=AR.mp hx
   have s5:=ag hp (.tup [V.int (i:Nat),V.str y])
   have k5:(upd G p (.tup [V.int (i:Nat),V.str y])) p=some (.tup [V.int (i:Nat),V.str y]):=aa
   generalize upd G p (.tup [V.int (i:Nat),V.str y])=G5 at s5 k5 |-
   refine⟨p,_,rfl,SqT.of k5,rfl,_,_,rfl,_,_,rfl,rfl,?_⟩
   refine ao (a:=tAsg _ _) fun B1 hB1 _ _=>?_
   refine⟨_,rfl,_,rfl,_,_,rfl,rfl,a,ns,_,rfl,(((e1.trans e2).trans eG).trans s5).seq hS,?_⟩
   generalize i4 ns _=c
   refine hB1 [some (.ref a),some (.ref nl),some (.int (k:Int)),some (.ref l),some (.ref vd),some (.int (i:Nat)),some (.str y),some (.int c),none,none,none] _ ?_
   refine⟨_,rfl,_,_,rfl,rfl,(show CDiv _ 4 from⟨by decide,by decide⟩),_,_,rfl,rfl,(show CPow 10 60 from⟨by decide,by decide,by decide⟩),_,_,rfl,rfl,(show (0:Int)<10 ^ (60:Int).toNat by decide +kernel),(show 4<=sizeLine by decide),fun p4 hp4=>?_⟩
   dsimp only
   generalize c / 4 % _=v4 at hp4 |-
   have s6:=ag hp4 (.lst [V.int 0,V.int 1,V.int 2,V.int v4])
   have k6:(upd G5 p4 (.lst [V.int 0,V.int 1,V.int 2,V.int v4])) p4=some (.lst [V.int 0,V.int 1,V.int 2,V.int v4]):=aa
   generalize upd G5 p4 (.lst [V.int 0,V.int 1,V.int 2,V.int v4])=G6 at s6 k6 |-
   obtain⟨rv,hrv,hrm⟩:=jr (xs:=[V.int 0,V.int 1,V.int 2,V.int v4]) (m:=4) (i:=c) rfl (by decide)
   obtain⟨z,rfl⟩:∃z:Int,rv=.int z:=by
     simp only[Aq,AE,or_false] at hrm
     rcases hrm with w|w|w|w<;>exact⟨_,w⟩
   have kv6:=(s5.trans s6) _ _ kv
   refine⟨_,rfl,_,_,rfl,rfl,(show (0:Int)<4 by decide),p4,_,_,.int z,rfl,rfl,SqL.of k6,hrv,?_⟩
   refine⟨_,rfl,_,rfl,vd,_,rfl,DPut.k (k:=Sum.inr y) kv6 (bu (by unfold vK;rw[Ad,AG];omega)),?_⟩
   have ny:¬ y∈zs.take i:=fun w=>by
     have h1:=zn.sublist (CQ (i+1) zs)
     rw[er hy] at h1
     exact (CS.mp h1).2.2 y w y (As.mpr rfl) rfl
   rw[a3r ny,<- er hy]
   refine⟨_,_,_,_,rfl,fun b o w=>?_,?_,aa⟩
   . rw[ae (aj w hvd)];exact (s5.trans s6) _ _ (eG _ _ w)
   . rw[ae nzv];exact (s5.trans s6) _ _ kz
 rintro σ G ⟨F0,z5,z6,z7,rfl,eG,kz,kv⟩
 refine hA5 _ _ ?_
 clear hA5 s3 k3 e4 kzl
 rw[Ad,Bv] at kv
 obtain⟨pt0,t10,t20,f10,p10,f20,p20,bd0,px0⟩:=id pa0
 obtain⟨dts0,kbd0,prd0⟩:=ip px0.body
 have kt0:H2 t0=some (.tup [.str cp0.name,.ref pt0,.str cp0.res,.ref t10,.ref t20,.ref bd0]):=px0.tup
 refine ao (a:=tAsg _ _) fun A6 hA6 _ _=>?_
 refine⟨_,rfl,_,rfl,l,_,0,.ref t0,rfl,rfl,SqL.of (eG _ _ kl),at0',t0,_,0,_,rfl,rfl,SqT.of (eG _ _ kt0),at0,(show 1<=sizeLine by decide),fun q0 hq0=>?_⟩
 have s7:=ag hq0 (.tup [V.int 0])
 have k7:(upd G q0 (.tup [V.int 0])) q0=some (.tup [V.int 0]):=aa
 generalize upd G q0 (.tup [V.int 0])=G7 at s7 k7 |-
 refine⟨_,rfl,vd,_,rfl,s7 _ _ kv,fun va hva=>?_⟩
 have s8:=ag hva (.dK (vK zs F0))
 have k8:(upd G7 va (.dK (vK zs F0))) va=some (.dK (vK zs F0)):=aa
 generalize upd G7 va (.dK (vK zs F0))=G8 at s8 k8 |-
 intro ha hha
 have s9:=ag hha (.dK [])
 have k9:(upd G8 ha (.dK [])) ha=some (.dK []):=aa
 dsimp only
 generalize upd G8 ha (.dK [])=G9 at s9 k9 |-
 have e29:Same H2 G9:=((eG.trans s7).trans s8).trans s9
 intro m dm hmn hdmn hne
 have s10:Same G9 (upd (upd G9 dm (.own m)) m (.ins CM dm [])):=fun b o z=>by rw[ae (aj z hmn),ae (aj z hdmn)];exact z
 have pr9:Paired (PrcAt K G9 [30]) ts (cps.map prcC):=ub (Paired.mapP prp fun t c z=>(z:PrcAt K H2 [30] t (prcC c)).same e29)
 have nmm:(cps.map prcC).map (·.name)=cps.map (·.name):=by rw[BO];rfl
 refine .mk G9 m dm l q0 va ha cp0.name ts (cps.map prcC) 0 (prcC cp0) xs (vK zs F0) [] [] [] 0 ([],0) rfl s10 hmn aa (e29 _ _ kl) pr9 (by rw[nmm];exact pok.nn) (by rw[Ad];omega) (by rw[Ai,hcp0];rfl) rfl (yo cok0 hxs hxl) (SqT.of ((s8.trans s9) _ _ k7)) (fun G' bd h=>zv G' bd h) (by decide) (s9 _ _ k8) k9 rfl fun G1 pd fl p dxp q1 nd' cd pr bd prs fsm fs' ys g H20 MN=>⟨rfl,?_⟩
 refine hA6 [some (.ref a),some (.ref nl),some (.int (k:Int)),some (.ref l),some (.ref vd),z5,z6,z7,some (.ref m),none,none] _ ?_
 clear hA6
 have gvd:=MN.g1 _ _ ((((s7.trans s8).trans s9)) _ _ kv)
 have hmX:∀b o,H20 b=some o->b≠fl->b≠p->b≠nd'->b≠vd->(rm (fun b=>b=fl\/b=p\/b=nd'\/b=vd) H20) b=some o:=fun b o hb n1 n2 n3 n4=>by
   rw[cr (X:=fun b=>b=fl\/b=p\/b=nd'\/b=vd) (fun z=>by
     rcases z with z|z|z|z
     . exact n1 z
     . exact n2 z
     . exact n3 z
     . exact n4 z)]
   exact hb
 have none_of:∀{b:Addr},(b=fl\/b=p\/b=nd'\/b=vd)->(rm (fun b=>b=fl\/b=p\/b=nd'\/b=vd) H20) b=none:=fun {b} h=>by unfold rm;rw[if_pos h]
 have sX20:Same (rm (fun b=>b=fl\/b=p\/b=nd'\/b=vd) H20) H20:=dk
 generalize hXd:rm (fun b=>b=fl\/b=p\/b=nd'\/b=vd) H20=X at hmX none_of sX20
 have GX:∀b o,G1 b=some o->(∀kvs,o≠.dK kvs)->X b=some o:=fun b o hb ho=>hmX b o (MN.gH _ _ hb) (aj hb MN.n5) (aj hb MN.n2) (aj hb MN.n3) (fun z=>by rw[z,gvd] at hb;exact ho _ (Ay hb).symm)
 have e2G:Same H2 G1:=e29.trans MN.g1
 have xl:X l=some (.lst (ts.map V.ref)):=GX _ _ (e2G _ _ kl) fun _ z=>by cases z
 have xps:Paired (fun t c=>PrcAt K X [30] t (prcC c)) ts cps:=Paired.mapP prp fun t c z=>((z:PrcAt K H2 [30] t (prcC c)).same e2G).keepC GX
 have xprs:Paired (fun t c=>PrcAt K X [30] t (prcC c)) prs cps:=Paired.mapP (om MN.hps) fun t c z=>(z:PrcAt K G1 [30] t (prcC c)).keepC GX
 have hpd1:=MN.hpd
 rw[nmm] at hpd1
 have npv:pd≠vd:=fun z=>by
   rw[z,gvd] at hpd1
   have y:=HO.dK.inj (Ay hpd1)
   have v:=qu (j:=0) (ns:=cps.map (·.name)) (ts:=prs) pok.nn (by rw[Ai,hcp0];rfl) MN.hpr
   rw[<- y] at v
   obtain⟨_,_,_,w⟩:=se v
   cases w
 have xpd:X pd=some (.dK ((byK (cps.map (·.name)) prs).map kk)):=hmX _ _ (MN.gH _ _ hpd1) (aj hpd1 MN.n5) (aj hpd1 MN.n2) (aj hpd1 MN.n3) npv
 have hvd20:=MN.gH _ _ gvd
 have xm:X m=some (.ins CM dm fsm):=hmX _ _ MN.hm (fun z=>by have y:=MN.hm;rw[z,MN.hfl] at y;cases y) MN.mp (fun z=>by have y:=MN.hm;rw[z,MN.hnd] at y;cases y) (fun z=>by have y:=MN.hm;rw[z,hvd20] at y;cases y)
 have xcd:X cd=some (.dK []):=hmX _ _ MN.hcd (fun z=>by have y:=MN.hcd;rw[z,MN.hfl] at y;cases y) (fun z=>by have y:=MN.hcd;rw[z,MN.hp] at y;cases y) (Br MN.nc) (fun z=>by have y:=MN.n4;rw[z,gvd] at y;cases y)
 obtain⟨ptM,tM1,tM2,fM1,pM1,fM2,pM2,bdM,pxM⟩:=Paired.at2 MN.hps MN.hpr (show (cps.map prcC)[0]? = some (prcC cp0) by rw[Ai,hcp0];rfl)
 have hprX:X pr=some (.tup [.str cp0.name,.ref ptM,.str cp0.res,.ref tM1,.ref tM2,.ref bdM]):=GX _ _ pxM.tup fun _ z=>by cases z
 obtain⟨dtsM,kbdM,prdM⟩:=ip pxM.body
 have xbdM:X bdM=some (.lst (dtsM.map V.ref)):=GX _ _ kbdM fun _ z=>by cases z
 have xprdM:Paired (fun t d=>PlAt X t (plC d)) dtsM cp0.ds:=Paired.mapP prdM fun t d z=>z.keepT fun b vs hb=>GX _ _ hb fun _ y=>by cases y
 have hym:∀y,y∈ys↔y ≠ "" /\ y ≠ "nil" /\ y∈gn cp0:=fun y=>(MN.zm y).trans (ig cok0 hxs)
 have hyz:∀y,y∈ys↔y∈zs:=fun y=>(hym y).trans (zm y).symm
 have hnd0:=MN.hnd
 rw[zr fun z hz=>(hyz z).mp hz] at hnd0
 have yl6:ys.length<=6:=A0 (Bg MN.zn fun y hy=>(hyz y).mp hy) zl6
 have xt0:X t0=some (.tup [.str cp0.name,.ref pt0,.str cp0.res,.ref t10,.ref t20,.ref bd0]):=GX _ _ (e2G _ _ kt0) fun _ z=>by cases z
 have xbd0:X bd0=some (.lst (dts0.map V.ref)):=GX _ _ (e2G _ _ kbd0) fun _ z=>by cases z
 have hdl0:=Ax prd0
 refine ao (a:=tAsg _ _) fun A7 hA7 _ _=>?_
 refine⟨_,rfl,(show 3<=sizeLine by decide),fun ce hce=>?_⟩
 have s21:=ag hce (.lst [V.int 0,V.int 0,V.ref vd])
 have k21:(upd H20 ce (.lst [V.int 0,V.int 0,V.ref vd])) ce=some (.lst [V.int (([]:List Lc).length:Int),V.int ((0:Nat):Int),V.ref vd]):=aa
 generalize upd H20 ce (.lst [V.int 0,V.int 0,V.ref vd])=H21 at s21 k21 |-
 refine⟨(show 1<=sizeLine by decide),fun cl hcl'=>?_⟩
 have s22:=ag hcl' (.lst [V.ref ce])
 have k22:(upd H21 cl (.lst [V.ref ce])) cl=some (.lst [V.ref ce]):=aa
 generalize upd H21 cl (.lst [V.ref ce])=H22 at s22 k22 |-
 have e22:=s21.trans s22
 refine hA7 [some (.ref a),some (.ref nl),some (.int (k:Int)),some (.ref l),some (.ref vd),z5,z6,z7,some (.ref m),some (.ref cl),none] _ ?_
 clear hA7
 have ncl20:H20 cl=none:=s21.free hcl'
 have S0:StAt K CF X H22 fl [⟨p,dxp,pr,q1,nd',bdM,fs',cp0.name,"",cp0.res,0,dtsM,ys,F0⟩]:=by
   refine⟨sX20.trans e22,none_of (.inl rfl),e22 _ _ MN.hfl,fun f hf=>?_,by simp,by simp⟩
   rw[As.mp hf]
   exact⟨none_of (.inr (.inl rfl)),none_of (.inr (.inr (.inl rfl))),e22 _ _ MN.hp,MN.ff,MN.lf,A8 _,e22.seqT MN.hq1,e22 _ _ hnd0,⟨_,_,_,hprX⟩,xbdM,by show ys.length<=100;omega⟩
 have L0:LSt X H22 cps cl [⟨ce,vd,0,zs,F0⟩]:=by
   refine⟨sX20.trans e22,sX20.free ncl20,k22,⟨⟨sX20.free hce,none_of (.inr (.inr (.inr rfl))),s22 _ _ k21,e22 _ _ hvd20,by show zs.length<=8;omega,zn,⟨cp0,hcp0,zm⟩⟩,trivial⟩,fun z=>?_,by simp,by simp⟩
   have y:=As.mp z
   have w:H21 cl=none:=hcl'
   rw[y,k21] at w;cases w
 have B0:BS K CF X H22 cps fl cl [⟨p,dxp,pr,q1,nd',bdM,fs',cp0.name,"",cp0.res,0,dtsM,ys,F0⟩] [⟨ce,vd,0,zs,F0⟩] [(0,F0)]:=by
   refine⟨S0,L0,⟨⟨cp0,hcp0,rfl,rfl,xprdM,MN.zn,hym,rfl,rfl,A8 _⟩,trivial,trivial⟩,rfl,trivial,(fun a b r h=>by cases h),(by intro z;cases z),fun z=>?_,fun z=>?_,fun f hf z=>?_⟩
   . have y:=MN.hfl;rw[z,ncl20] at y;cases y
   . have y:=MN.hfl;rw[As.mp z,hce] at y;cases y
   . rw[As.mp hf] at z
     have y:=MN.n3
     rw[show nd'=vd from As.mp z,gvd] at y;cases y
 have hcl4:cps.length<=4:=by omega
 have std:∀{H':Hp} {frs:List Fr} {cs:List Lc} {s:PS} {Q':VK},BS K CF X H' cps fl cl frs cs s->(∀H'',Same H' H''->Q' (.bl true) H'')->spStands K CM CF [.ref m,.ref l,.ref cl] H' Q' E0:=fun {H' frs cs s Q'} B q'=>by
   obtain⟨x,s',rfl⟩:∃x s',s=x::s':=by
     cases s with
     | nil=>exact absurd rfl B.ne
     | cons x s'=>exact⟨x,s',rfl⟩
   obtain⟨f',r,rfl⟩:∃f r,frs=f::r:=by
     cases frs with
     | nil=>exact B.mr.elim
     | cons f r=>exact⟨f,r,rfl⟩
   obtain⟨c,cs0,rfl⟩:∃c r,cs=c::r:=by
     cases cs with
     | nil=>have:=B.ab;cases this
     | cons c r=>exact⟨c,r,rfl⟩
   obtain⟨⟨cp,R⟩,_,_⟩:=B.mr
   have ab:(c.k,c.F)::absL cs0=x::s':=B.ab
   obtain⟨ab1,ab2⟩:=Es ab
   have eN:cs0.length=s'.length:=by rw[<- ab2];unfold absL;rw[Ad]
   have hcp:cps[cs0.length]? = some cp:=by rw[eN];exact R.at_
   obtain⟨cq,hcq,hzq⟩:=B.L.at_.1.zm
   have eq:cq=cp:=by rw[hcp] at hcq;exact (Ay hcq).symm
   subst eq
   have ck:c.k=x.1:=by rw[<- ab1]
   have hle:=R.le
   refine .mk X m dm pd fl cd fsm g f' r l cl ts cps c cs0 cq rfl xm MN.mf xcd B.S xl xps B.L hcp R.nm (by rw[ck];exact R.k) (Ax R.ds) (by rw[R.F,<- ab1]) (fun y=>(R.mem y).trans (hzq y).symm) R.nd (by omega) (fun hne=>?_) (ju (hxs _ (pok.ok cq (Ar hcp)).nm)) q'
   cases s' with
   | nil=>exact absurd (Bi eN) hne
   | cons b s'' =>
     have:=B.en x b s'' rfl
     rw[dr (i:=s''.length+1) R.at_] at this
     omega
 refine ao (a:=tFor _ _ _) fun F1 hF1 hR1 _=>?_
 refine⟨_,rfl,(by decide),(by decide),?_⟩
 refine fh (fun i σ H'=>∃(frs:List Fr) (cs:List Lc) (s:PS) (z10:Option V),σ=[some (.ref a),some (.ref nl),some (.int (k:Int)),some (.ref l),some (.ref vd),z5,z6,z7,some (.ref m),some (.ref cl),z10]/\BS K CF X H' cps fl cl frs cs s/\muP cps s<=24 - i) ⟨_,_,_,none,rfl,B0,A0 (a6f pok.ok F0) (by decide)⟩ ?_ ?_
 . rintro i σ H' hi ⟨frs,cs,s,z10,rfl,B,hmu⟩
   refine ao (a:=tIfS _ _ _) fun C1 hC1 _ _=>?_
   refine⟨_,rfl,_,rfl,_,rfl,std B fun H'' e=>⟨_,rfl,iteB (fun c=>absurd c (by simp)) (fun _=>?_)⟩⟩
   refine hC1 [some (.ref a),some (.ref nl),some (.int (k:Int)),some (.ref l),some (.ref vd),z5,z6,z7,some (.ref m),some (.ref cl),some (.int (0+(i:Int)))] _ ?_
   clear hC1
   replace B:=B.same e
   obtain⟨x,s',rfl⟩:∃x s',s=x::s':=by
     cases s with
     | nil=>exact absurd rfl B.ne
     | cons x s'=>exact⟨x,s',rfl⟩
   obtain⟨f',r,rfl⟩:∃f r,frs=f::r:=by
     cases frs with
     | nil=>exact B.mr.elim
     | cons f r=>exact⟨f,r,rfl⟩
   obtain⟨c,cs0,rfl⟩:∃c r,cs=c::r:=by
     cases cs with
     | nil=>have:=B.ab;cases this
     | cons c r=>exact⟨c,r,rfl⟩
   obtain⟨⟨cp,R⟩,_,_⟩:=id B.mr
   have ab:(c.k,c.F)::absL cs0=x::s':=B.ab
   obtain⟨ab1,ab2⟩:=Es ab
   have eN:cs0.length=s'.length:=by rw[<- ab2];unfold absL;rw[Ad]
   have ck:c.k=x.1:=by rw[<- ab1]
   have hs4:s'.length<4:=AB (Ao.mp R.at_).1 hcl4
   refine ao (a:=ql _) fun C2 hC2 _ _=>?_
   refine⟨_,rfl,m,dm,fsm,rfl,B.S.sX _ _ xm,MN.mf.meth _ (by decide +kernel),?_⟩
   cases hd:(dsOf cps s'.length)[x.1]? with
   | some d =>
     refine B.step xm MN.mf xpd xprs pok hxs hxl hcl4 hd fun G1' frs' S' mr' L' n3'=>?_
     refine hC2 [some (.ref a),some (.ref nl),some (.int (k:Int)),some (.ref l),some (.ref vd),z5,z6,z7,some (.ref m),some (.ref cl),some (.int (0+(i:Int)))] _ ?_
     have hdm:=a8x hd hs4
     have go:∀{Q':VK},(∀H3 cs',BS K CF X H3 cps fl cl frs' cs' (dv cps (x::s'))->Q' .non H3)->spStepL K [.ref l,.ref cl] G1' Q' E0:=fun q'=>BS.stepL S' mr' L' B.ab B.ch B.n1 B.n2 n3' xl xps pok hxs hxl hcl4 hd q'
     refine⟨_,rfl,cl,_,rfl,.inl (SqL.of L'.hcl),_,_,rfl,rfl,_,rfl,iteB (fun _=>⟨_,rfl,_,rfl,go fun H3 cs' B'=>⟨_,_,_,_,rfl,B',by omega⟩⟩) (fun c1=>?_)⟩
     have e0:cs0=[]:=by
       cases cs0 with
       | nil=>rfl
       | cons b r=>exact absurd (show (((((c::b::r).map fun c=>V.ref c.ce).reverse).length:Nat):Int)>1 by rw[Dj,Ad,AD,AD];omega) (of_decide_eq_false c1)
     subst e0
     have es:s'=[]:=Bi eN.symm
     subst es
     refine⟨_,rfl,cl,_,0,.ref c.ce,rfl,rfl,SqL.of L'.hcl,rfl,c.ce,_,1,_,rfl,rfl,SqL.of L'.at_.1.hc,rfl,_,rfl,l,_,0,.ref t0,rfl,rfl,SqL.of (L'.sX _ _ xl),at0',t0,_,5,_,rfl,rfl,SqT.of (L'.sX _ _ xt0),rfl,bd0,_,rfl,.inl (SqL.of (L'.sX _ _ xbd0)),_,_,rfl,rfl,_,rfl,iteB (fun _=>⟨_,rfl,_,rfl,go fun H3 cs' B'=>⟨_,_,_,_,rfl,B',by omega⟩⟩) (fun c2=>?_)⟩
     refine absurd ?_ (of_decide_eq_false c2)
     have y:cp0.ds.length>x.1:=by
       have hd':(dsOf cps 0)[x.1]? = some d:=hd
       rw[dr hcp0] at hd'
       exact (Ao.mp hd').1
     rw[Ad,hdl0]
     omega
   | none =>
     have hge:cp.ds.length<=x.1:=by
       rw[dr R.at_] at hd
       rcases EC x.1 cp.ds.length with z|z
       . rw[Af z] at hd;cases hd
       . exact z
     have es:s'=[]:=by
       cases s' with
       | nil=>rfl
       | cons b s'' =>
         have:=B.en x b s'' rfl
         rw[dr (i:=s''.length+1) R.at_] at this
         have:=R.le
         omega
     subst es
     have e0:cs0=[]:=Bi eN
     subst e0
     have ecp:cp=cp0:=by
       have y:cps[0]? = some cp:=R.at_
       rw[hcp0] at y;exact (Ay y).symm
     refine .off X m dm pd fl cd fsm g f' r rfl xm MN.mf B.S (by rw[Ax R.ds,R.k];omega) fun G1' e'=>?_
     refine hC2 [some (.ref a),some (.ref nl),some (.int (k:Int)),some (.ref l),some (.ref vd),z5,z6,z7,some (.ref m),some (.ref cl),some (.int (0+(i:Int)))] _ ?_
     have B':=B.same e'
     have h0:muP cps [x]=0:=by
       show remP cps 0 x.1+0=0
       unfold remP
       rw[dr hcp0,<- ecp,Gn hge];simp[gk]
     refine⟨_,rfl,cl,_,rfl,.inl (SqL.of B'.L.hcl),_,_,rfl,rfl,_,rfl,iteB (fun c1=>absurd (of_decide_eq_true c1) (by simp)) (fun c1=>?_)⟩
     refine⟨_,rfl,cl,_,0,.ref c.ce,rfl,rfl,SqL.of B'.L.hcl,rfl,c.ce,_,1,_,rfl,rfl,SqL.of B'.L.at_.1.hc,rfl,_,rfl,l,_,0,.ref t0,rfl,rfl,SqL.of (B'.L.sX _ _ xl),at0',t0,_,5,_,rfl,rfl,SqT.of (B'.L.sX _ _ xt0),rfl,bd0,_,rfl,.inl (SqL.of (B'.L.sX _ _ xbd0)),_,_,rfl,rfl,_,rfl,iteB (fun c2=>absurd (of_decide_eq_true c2) (by rw[Ad,hdl0,<- ecp];omega)) (fun _=>⟨_,_,_,_,rfl,B',by omega⟩)⟩
 . rintro σ H' ⟨frs,cs,s,z10,rfl,B,hmu⟩
   refine hF1 _ _ ?_
   obtain⟨x,s',rfl⟩:∃x s',s=x::s':=by
     cases s with
     | nil=>exact absurd rfl B.ne
     | cons x s'=>exact⟨x,s',rfl⟩
   obtain⟨f',r,rfl⟩:∃f r,frs=f::r:=by
     cases frs with
     | nil=>exact B.mr.elim
     | cons f r=>exact⟨f,r,rfl⟩
   obtain⟨⟨cp,R⟩,_,_⟩:=id B.mr
   have hz:=a84 (cps:=cps) (a:=x) (s:=s') (Nat.eq_zero_of_le_zero hmu)
   rw[dr R.at_] at hz
   have Sa:=B.S.fr f' Ah
   obtain⟨v1,v3,v4,hpr'⟩:=Sa.hpr
   refine⟨_,rfl,m,dm,fsm,rfl,B.S.sX _ _ xm,MN.mf.meth _ (by decide +kernel),.fine m pd fl cd f'.p f'.pr f'.pt f'.nd f'.bd f'.bd _ g f'.rc _ v1 _ v3 v4 [] f'.k f'.ts rfl (B.S.ma xm MN.mf) (B.S.sX _ _ hpr') Sa.hpt rfl (A8 _) (B.S.sX _ _ Sa.hbd) fun H'' e=>?_⟩
   rw[if_neg (by rw[Ax R.ds,R.k];omega)]
   refine⟨rfl,_,rfl,iteB (fun _=>?_) (fun c=>absurd c (by simp))⟩
   exact⟨_,rfl,_,rfl,_,rfl,std (B.same e) fun H3 _=>q _⟩
noncomputable abbrev a6l:Stmt:=cw (top 30) 7
theorem l7 {K:Ab}{h:Heap}{mg:Str->Option Value}{x:Str}{a:Addr}(X:K.In h) (G:h.Ns mainGlobals mg) (e:Au K mainGlobals x=some (some (.ref a))):Glob mg x (.ref a):=⟨_,AF X G e,rfl⟩
theorem v5 {K:Ab}{h:Heap}{mg:Str->Option Value}{x y z:Str}{t:Tok}(X:K.In h) (G:h.Ns mainGlobals mg) (e:Au K mainGlobals x=some (some (.str y t))) (hy:y=z):Glob mg x (.str z):=⟨_,AF X G e,t,by rw[hy]⟩
theorem a61 {K:Ab}{h:Heap}{mg:Str->Option Value}{x:Str}{i j:Int}{t:Tok}(X:K.In h) (G:h.Ns mainGlobals mg) (e:Au K mainGlobals x=some (some (.int i t))) (hj:i=j):Glob mg x (.int j):=⟨_,AF X G e,t,by rw[hj]⟩
theorem rel_find {es:Array DictEntry}{kvs:List (Str×V)}(h:Paired (fun (kv:Str×V) (e:DictEntry)=>∃hh t u,e=⟨hh,.str kv.1 t,u⟩/\RelV kv.2 u) kvs es.toList) (x:Str):RelO (kvs.lookup x) (findBy BV es x):=by
 unfold findBy
 rw[<- HA]
 generalize es.toList=l at h
 have b:∀y t,BV x (.str y t)=(x == y):=fun y t=>by
   show (y == x)=(x == y)
   exact Bool.eq_iff_iff.mpr ⟨fun z=>beq_iff_eq.mpr (beq_iff_eq.mp z).symm,fun z=>beq_iff_eq.mpr (beq_iff_eq.mp z).symm⟩
 induction h with
 | nil=>exact trivial
 | cons h1 _ ih =>
   rename_i kv e _ _ _
   obtain⟨k,v⟩:=kv
   obtain⟨hh,t,u,rfl,r⟩:=h1
   simp only[BQ,b,CA]
   dsimp only at r ih |-
   cases x == k with
   | true=>exact r
   | false=>exact ih
theorem all_mk {l:FT}{w:World}{K:Ab}{h:Heap}{mg:Str->Option Value}{fa CF CM f1 f2 f3 f4 f5 f6 f7 f8 f9 f10 f11 f12 f13 f14 f15 f16 f17 f18 f19 f20 f21 f22 f23 f24 f25 f26 f27 f28 f29 f30 f31 f32 f33 f34 f35 f36 f37 f38 f39 f40 f41 f42 f43:Addr}(X:K.In h) (G:h.Ns mainGlobals mg) (hfa:mg "law" = some (.ref fa))
   {d1 d2 d3 d4 d5 d6 d7 d8 d9 d10 d11 d12 d13 d14 d15 d16 d17 d18 d19 d20 d21 d22 d23 d24 d25 d26 d27 d28 d29 d30 d31 d32 d33 d34 d35 d36 d37 d38 d39 d40 d41 d42 d43:FuncData}
   (aCFrame:Au K mainGlobals "Frame" = some (some (.ref CF)))
   (aCMachine:Au K mainGlobals "Machine" = some (some (.ref CM)))
   (a1:Au K mainGlobals "is_name" = some (some (.ref f1)))
   (F1:Fun K "is_name" "is_name" rq f1 d1)
   (a2:Au K mainGlobals "names_of" = some (some (.ref f2)))
   (F2:Fun K "names_of" "names_of" qd f2 d2)
   (a3:Au K mainGlobals "number_of" = some (some (.ref f3)))
   (F3:Fun K "number_of" "number_of" xt f3 d3)
   (a4:Au K mainGlobals "lists_in" = some (some (.ref f4)))
   (F4:Fun K "lists_in" "lists_in" p8 f4 d4)
   (a5:Au K mainGlobals "own_deed" = some (some (.ref f5)))
   (F5:Fun K "own_deed" "own_deed" oy f5 d5)
   (a6:Au K mainGlobals "own_deeds" = some (some (.ref f6)))
   (F6:Fun K "own_deeds" "own_deeds" lh f6 d6)
   (a7:Au K mainGlobals "cell_name" = some (some (.ref f7)))
   (F7:Fun K "cell_name" "cell_name" lx f7 d7)
   (a8:Au K mainGlobals "all_deeds" = some (some (.ref f8)))
   (F8:Fun K "all_deeds" "all_deeds" sAll f8 d8)
   (a9:Au K mainGlobals "words_of" = some (some (.ref f9)))
   (F9:Fun K "words_of" "words_of" wb f9 d9)
   (a10:Au K mainGlobals "names_in" = some (some (.ref f10)))
   (F10:Fun K "names_in" "names_in" pj f10 d10)
   (a11:Au K mainGlobals "by_names" = some (some (.ref f11)))
   (F11:Fun K "by_names" "by_names" ph f11 d11)
   (a12:Au K mainGlobals "list_of" = some (some (.ref f12)))
   (F12:Fun K "list_of" "list_of" sf f12 d12)
   (a13:Au K mainGlobals "found_at" = some (some (.ref f13)))
   (F13:Fun K "found_at" "found_at" w6 f13 d13)
   (a14:Au K mainGlobals "behind_deed" = some (some (.ref f14)))
   (F14:Fun K "behind_deed" "behind_deed" sq f14 d14)
   (a15:Au K mainGlobals "settled" = some (some (.ref f15)))
   (F15:Fun K "settled" "settled" pe f15 d15)
   (a16:Au K mainGlobals "_law_cell_at" = some (some (.ref f16)))
   (F16:Fun K "_law_cell_at" "_law_cell_at" a0s f16 d16)
   (a17:Au K mainGlobals "_law_rich" = some (some (.ref f17)))
   (F17:Fun K "_law_rich" "_law_rich" a0q f17 d17)
   (a18:Au K mainGlobals "_law_fed" = some (some (.ref f18)))
   (F18:Fun K "_law_fed" "_law_fed" sFed f18 d18)
   (a19:Au K mainGlobals "_law_digit" = some (some (.ref f19)))
   (F19:Fun K "_law_digit" "_law_digit" vh f19 d19)
   (a20:Au K mainGlobals "_law_unlike" = some (some (.ref f20)))
   (F20:Fun K "_law_unlike" "_law_unlike" sr f20 d20)
   (a21:Au K mainGlobals "_law_names" = some (some (.ref f21)))
   (F21:Fun K "_law_names" "_law_names" vv f21 d21)
   (a22:Au K mainGlobals "_law_sets" = some (some (.ref f22)))
   (F22:Fun K "_law_sets" "_law_sets" a1c f22 d22)
   (a23:Au K mainGlobals "_law_heads" = some (some (.ref f23)))
   (F23:Fun K "_law_heads" "_law_heads" wo f23 d23)
   (a24:Au K mainGlobals "_law_program" = some (some (.ref f24)))
   (F24:Fun K "_law_program" "_law_program" a07 f24 d24)
   (a25:Au K mainGlobals "_law_said" = some (some (.ref f25)))
   (F25:Fun K "_law_said" "_law_said" a1l f25 d25)
   (a26:Au K mainGlobals "_law_full" = some (some (.ref f26)))
   (F26:Fun K "_law_full" "_law_full" a0t f26 d26)
   (a27:Au K mainGlobals "_law_step" = some (some (.ref f27)))
   (F27:Fun K "_law_step" "_law_step" vc f27 d27)
   (a28:Au K mainGlobals "_law_stands" = some (some (.ref f28)))
   (F28:Fun K "_law_stands" "_law_stands" ml f28 d28)
   (a29:Au K mainGlobals "law" = some (some (.ref f29)))
   (F29:Fun K "law" "law" sLaw f29 d29)
   (a30:AA K (.ref CF) "__init__" = some (some (.ref f30))) (i30:Bx K (.ref f30)=true)
   (F30:Fun K "__init__" "Frame.__init__" ww f30 d30)
   (a31:AA K (.ref CF) "deed" = some (some (.ref f31))) (i31:Bx K (.ref f31)=true)
   (F31:Fun K "deed" "Frame.deed" x6 f31 d31)
   (a32:AA K (.ref CF) "move" = some (some (.ref f32))) (i32:Bx K (.ref f32)=true)
   (F32:Fun K "move" "Frame.move" wu f32 d32)
   (a33:AA K (.ref CF) "number" = some (some (.ref f33))) (i33:Bx K (.ref f33)=true)
   (F33:Fun K "number" "Frame.number" a0j f33 d33)
   (a34:AA K (.ref CM) "__init__" = some (some (.ref f34))) (i34:Bx K (.ref f34)=true)
   (F34:Fun K "__init__" "Machine.__init__" vi f34 d34)
   (a35:AA K (.ref CM) "word" = some (some (.ref f35))) (i35:Bx K (.ref f35)=true)
   (F35:Fun K "word" "Machine.word" vq f35 d35)
   (a36:AA K (.ref CM) "where" = some (some (.ref f36))) (i36:Bx K (.ref f36)=true)
   (F36:Fun K "where" "Machine.where" sj f36 d36)
   (a37:AA K (.ref CM) "held" = some (some (.ref f37))) (i37:Bx K (.ref f37)=true)
   (F37:Fun K "held" "Machine.held" wn f37 d37)
   (a38:AA K (.ref CM) "heap" = some (some (.ref f38))) (i38:Bx K (.ref f38)=true)
   (F38:Fun K "heap" "Machine.heap" wj f38 d38)
   (a39:AA K (.ref CM) "step" = some (some (.ref f39))) (i39:Bx K (.ref f39)=true)
   (F39:Fun K "step" "Machine.step" x0 f39 d39)
   (a40:AA K (.ref CM) "branch" = some (some (.ref f40))) (i40:Bx K (.ref f40)=true)
   (F40:Fun K "branch" "Machine.branch" a6l f40 d40)
   (a41:AA K (.ref CM) "enter" = some (some (.ref f41))) (i41:Bx K (.ref f41)=true)
   (F41:Fun K "enter" "Machine.enter" su f41 d41)
   (a42:AA K (.ref CM) "leave_ended" = some (some (.ref f42))) (i42:Bx K (.ref f42)=true)
   (F42:Fun K "leave_ended" "Machine.leave_ended" rh f42 d42)
   (a43:AA K (.ref CM) "change" = some (some (.ref f43))) (i43:Bx K (.ref f43)=true)
   (F43:Fun K "change" "Machine.change" oz f43 d43)
   (pgFrame:CW K CF IS=true) (hdFrame:Dy K CF=true) (poFrame:Eh K CF=true) (saFrame:AA K (.ref CF) "__setattr__" = some (some (.builtin "object.__setattr__"))) (mkFrame:E5 K CF=true) (kcFrame:Cq K (.ref CF)=true)
   (nFrame0:AA K (.ref CF) "procedure" = some none)
   (nFrame1:AA K (.ref CF) "path" = some none)
   (nFrame2:AA K (.ref CF) "numbers" = some none)
   (nFrame3:AA K (.ref CF) "receiver" = some none)
   (pgMachine:CW K CM IS=true) (hdMachine:Dy K CM=true) (poMachine:Eh K CM=true) (saMachine:AA K (.ref CM) "__setattr__" = some (some (.builtin "object.__setattr__"))) (mkMachine:E5 K CM=true) (kcMachine:Cq K (.ref CM)=true)
   (nMachine0:AA K (.ref CM) "procedures" = some none)
   (nMachine1:AA K (.ref CM) "frames" = some none)
   (nMachine2:AA K (.ref CM) "cells" = some none)
   (nMachine3:AA K (.ref CM) "greatest" = some none)
   (nMachine4:AA K (.ref CM) "fallen" = some none)
   (z1:Au K mainGlobals "len" = some none)
   (z2:Au K mainGlobals "all" = some none)
   (z3:Au K mainGlobals "any" = some none)
   (z4:Au K mainGlobals "isinstance" = some none)
   (z5:Au K mainGlobals "list" = some none)
   (z6:Au K mainGlobals "int" = some none)
   (z7:Au K mainGlobals "bool" = some none)
   (z8:Au K mainGlobals "str" = some none)
   (z9:Au K mainGlobals "dict" = some none)
   (z10:Au K mainGlobals "sorted" = some none)
   (z11:Au K mainGlobals "set" = some none)
   (z12:Au K mainGlobals "sum" = some none)
   (z13:Au K mainGlobals "range" = some none)
   (z14:Au K mainGlobals "tuple" = some none)
   (z15:Au K mainGlobals "max" = some none)
   (z16:Au K mainGlobals "zip" = some none)
   (z17:Au K mainGlobals "min" = some none)
   (z18:Au K mainGlobals "enumerate" = some none)
   {yL yF:Str} {tL tF:Tok} (gL:Au K mainGlobals "LETTERS" = some (some (.str yL tL))) (eL:yL=Mir.letters) (gF:Au K mainGlobals "FIGURES" = some (some (.str yF tF))) (eF:yF=Mir.figures)
   {jS:Int} {tS:Tok} (gS:Au K mainGlobals "MOST_SIGNS" = some (some (.int jS tS))) (eS:jS=8)
   {aN aP aE aT t1 t2 t3 t4 t5:Addr} {oN oT o1 o2 o3 o4 o5:Obj} {itN itT it1 it2 it3 it4 it5:Array Value} {nN nT nP nE n1 n2 n3 n4 n5:Nat} {es ec:Array DictEntry}
   (gN:Au K mainGlobals "NO_NAMES" = some (some (.ref aN))) (lN:K.lookup aN=some oN) (cN:oN.cls=.type "tuple") (dN:oN.data=.seq itN nN) (sN:itN.size<=100) (vN:Vals (Mir.noNames.map V.str) itN.toList)
   (gT:Au K mainGlobals "FIELDS" = some (some (.ref aT))) (lT:K.lookup aT=some oT) (cT:oT.cls=.type "tuple") (dT:oT.data=.seq itT nT) (sT:itT.size<=100) (bT:oT.dict=none) (vT:Vals (([("first" : Str),"second"]:List Str).map V.str) itT.toList)
   (gP:Au K mainGlobals "PLAIN_FORMS" = some (some (.ref aP))) (lP:K.lookup aP=some ⟨.type "dict",none,.dict es nP,#[]⟩) (hP:FV w.params es.toList) (mP:(aP == sysModules)=false) (rP:∀x,RelO (([("set",.ref t1),("read",.ref t2),("write",.ref t3),("new",.ref t4),("free",.ref t5)]:List (Str×V)).lookup x) (findBy BV es x))
   (lT1:K.lookup t1=some o1) (cT1:o1.cls=.type "tuple") (dT1:o1.data=.seq it1 n1) (sT1:it1.size<=100) (vT1:Vals ((["name","value"]:List Str).map V.str) it1.toList)
   (lT2:K.lookup t2=some o2) (cT2:o2.cls=.type "tuple") (dT2:o2.data=.seq it2 n2) (sT2:it2.size<=100) (vT2:Vals ((["name","name","field"]:List Str).map V.str) it2.toList)
   (lT3:K.lookup t3=some o3) (cT3:o3.cls=.type "tuple") (dT3:o3.data=.seq it3 n3) (sT3:it3.size<=100) (vT3:Vals ((["name","field","value"]:List Str).map V.str) it3.toList)
   (lT4:K.lookup t4=some o4) (cT4:o4.cls=.type "tuple") (dT4:o4.data=.seq it4 n4) (sT4:it4.size<=100) (vT4:Vals ((["name","value","value"]:List Str).map V.str) it4.toList)
   (lT5:K.lookup t5=some o5) (cT5:o5.cls=.type "tuple") (dT5:o5.data=.seq it5 n5) (sT5:it5.size<=100) (vT5:Vals ((["name"]:List Str).map V.str) it5.toList)
   (gE:Au K mainGlobals "CELL_PLACES" = some (some (.ref aE))) (lE:K.lookup aE=some ⟨.type "dict",none,.dict ec nE,#[]⟩) (hE:FV w.params ec.toList) (mE:(aE == sysModules)=false) (rE:∀x,RelO (([("read",.int 2),("write",.int 1),("free",.int 1)]:List (Str×V)).lookup x) (findBy BV ec x)) :
   ∃fd:FuncData,(∀(s:Shared) (v:Value),BindsTo s fd ⟨[v],[]⟩ [("_law_script",v)])/\∀base:Heap,K.In base->base.Ns mainGlobals mg->FnOk l.prog w K mg base CX0 10 fa fd ["_law_script"] (uq K):=by
 have e:=hfa.symm.trans (AF X G a29)
 cases e
 have B1:=F1.binds (ps:=["text"]) fun _ _ _ _ _ _ us hl=>match us,hl with | [_],_=>rfl
 have C1:Cal K mg "is_name" f1 _ ["text"]:=⟨AF X G a1,F1.kp,B1⟩
 have B2:=F2.binds (ps:=["telling"]) fun _ _ _ _ _ _ us hl=>match us,hl with | [_],_=>rfl
 have C2:Cal K mg "names_of" f2 _ ["telling"]:=⟨AF X G a2,F2.kp,B2⟩
 have B3:=F3.binds (ps:=["values","word"]) fun _ _ _ _ _ _ us hl=>match us,hl with | [_,_],_=>rfl
 have C3:Cal K mg "number_of" f3 _ ["values","word"]:=⟨AF X G a3,F3.kp,B3⟩
 have B4:=F4.binds (ps:=["deed"]) fun _ _ _ _ _ _ us hl=>match us,hl with | [_],_=>rfl
 have C4:Cal K mg "lists_in" f4 _ ["deed"]:=⟨AF X G a4,F4.kp,B4⟩
 have B5:=F5.binds (ps:=["deed"]) fun _ _ _ _ _ _ us hl=>match us,hl with | [_],_=>rfl
 have C5:Cal K mg "own_deed" f5 _ ["deed"]:=⟨AF X G a5,F5.kp,B5⟩
 have B6:=F6.binds (ps:=["deeds"]) fun _ _ _ _ _ _ us hl=>match us,hl with | [_],_=>rfl
 have C6:Cal K mg "own_deeds" f6 _ ["deeds"]:=⟨AF X G a6,F6.kp,B6⟩
 have B7:=F7.binds (ps:=["deed"]) fun _ _ _ _ _ _ us hl=>match us,hl with | [_],_=>rfl
 have C7:Cal K mg "cell_name" f7 _ ["deed"]:=⟨AF X G a7,F7.kp,B7⟩
 have B8:=F8.binds (ps:=["deeds"]) fun _ _ _ _ _ _ us hl=>match us,hl with | [_],_=>rfl
 have C8:Cal K mg "all_deeds" f8 _ ["deeds"]:=⟨AF X G a8,F8.kp,B8⟩
 have B9:=F9.binds (ps:=["deed"]) fun _ _ _ _ _ _ us hl=>match us,hl with | [_],_=>rfl
 have C9:Cal K mg "words_of" f9 _ ["deed"]:=⟨AF X G a9,F9.kp,B9⟩
 have B10:=F10.binds (ps:=["procedure"]) fun _ _ _ _ _ _ us hl=>match us,hl with | [_],_=>rfl
 have C10:Cal K mg "names_in" f10 _ ["procedure"]:=⟨AF X G a10,F10.kp,B10⟩
 have B11:=F11.binds (ps:=["program"]) fun _ _ _ _ _ _ us hl=>match us,hl with | [_],_=>rfl
 have C11:Cal K mg "by_names" f11 _ ["program"]:=⟨AF X G a11,F11.kp,B11⟩
 have B12:=F12.binds (ps:=["body","path"]) fun _ _ _ _ _ _ us hl=>match us,hl with | [_,_],_=>rfl
 have C12:Cal K mg "list_of" f12 _ ["body","path"]:=⟨AF X G a12,F12.kp,B12⟩
 have B13:=F13.binds (ps:=["body","path"]) fun _ _ _ _ _ _ us hl=>match us,hl with | [_,_],_=>rfl
 have C13:Cal K mg "found_at" f13 _ ["body","path"]:=⟨AF X G a13,F13.kp,B13⟩
 have B14:=F14.binds (ps:=["path"]) fun _ _ _ _ _ _ us hl=>match us,hl with | [_],_=>rfl
 have C14:Cal K mg "behind_deed" f14 _ ["path"]:=⟨AF X G a14,F14.kp,B14⟩
 have B15:=F15.binds (ps:=["body","path"]) fun _ _ _ _ _ _ us hl=>match us,hl with | [_,_],_=>rfl
 have C15:Cal K mg "settled" f15 _ ["body","path"]:=⟨AF X G a15,F15.kp,B15⟩
 have B16:=F16.binds (ps:=["_law_script","_law_k"]) fun _ _ _ _ _ _ us hl=>match us,hl with | [_,_],_=>rfl
 have C16:Cal K mg "_law_cell_at" f16 _ ["_law_script","_law_k"]:=⟨AF X G a16,F16.kp,B16⟩
 have B17:=F17.binds (ps:=["_law_cell","_law_k"]) fun _ _ _ _ _ _ us hl=>match us,hl with | [_,_],_=>rfl
 have C17:Cal K mg "_law_rich" f17 _ ["_law_cell","_law_k"]:=⟨AF X G a17,F17.kp,B17⟩
 have B18:=F18.binds (ps:=["_law_cell","_law_k"]) fun _ _ _ _ _ _ us hl=>match us,hl with | [_,_],_=>rfl
 have C18:Cal K mg "_law_fed" f18 _ ["_law_cell","_law_k"]:=⟨AF X G a18,F18.kp,B18⟩
 have B19:=F19.binds (ps:=["_law_digits","_law_many"]) fun _ _ _ _ _ _ us hl=>match us,hl with | [_,_],_=>rfl
 have C19:Cal K mg "_law_digit" f19 _ ["_law_digits","_law_many"]:=⟨AF X G a19,F19.kp,B19⟩
 have B20:=F20.binds (ps:=["_law_name","_law_names_here"]) fun _ _ _ _ _ _ us hl=>match us,hl with | [_,_],_=>rfl
 have C20:Cal K mg "_law_unlike" f20 _ ["_law_name","_law_names_here"]:=⟨AF X G a20,F20.kp,B20⟩
 have B21:=F21.binds (ps:=["_law_base","_law_place","_law_many"]) fun _ _ _ _ _ _ us hl=>match us,hl with | [_,_,_],_=>rfl
 have C21:Cal K mg "_law_names" f21 _ ["_law_base","_law_place","_law_many"]:=⟨AF X G a21,F21.kp,B21⟩
 have B22:=F22.binds (ps:=["_law_digits","_law_many","_law_own","_law_every"]) fun _ _ _ _ _ _ us hl=>match us,hl with | [_,_,_,_],_=>rfl
 have C22:Cal K mg "_law_sets" f22 _ ["_law_digits","_law_many","_law_own","_law_every"]:=⟨AF X G a22,F22.kp,B22⟩
 have B23:=F23.binds (ps:=["_law_script","_law_names_here","_law_many"]) fun _ _ _ _ _ _ us hl=>match us,hl with | [_,_,_],_=>rfl
 have C23:Cal K mg "_law_heads" f23 _ ["_law_script","_law_names_here","_law_many"]:=⟨AF X G a23,F23.kp,B23⟩
 have B24:=F24.binds (ps:=["_law_script","_law_names_here","_law_many"]) fun _ _ _ _ _ _ us hl=>match us,hl with | [_,_,_],_=>rfl
 have C24:Cal K mg "_law_program" f24 _ ["_law_script","_law_names_here","_law_many"]:=⟨AF X G a24,F24.kp,B24⟩
 have B25:=F25.binds (ps:=["_law_procedure"]) fun _ _ _ _ _ _ us hl=>match us,hl with | [_],_=>rfl
 have C25:Cal K mg "_law_said" f25 _ ["_law_procedure"]:=⟨AF X G a25,F25.kp,B25⟩
 have B26:=F26.binds (ps:=["_law_values","_law_e"]) fun _ _ _ _ _ _ us hl=>match us,hl with | [_,_],_=>rfl
 have C26:Cal K mg "_law_full" f26 _ ["_law_values","_law_e"]:=⟨AF X G a26,F26.kp,B26⟩
 have B27:=F27.binds (ps:=["_law_program_here","_law_calls"]) fun _ _ _ _ _ _ us hl=>match us,hl with | [_,_],_=>rfl
 have C27:Cal K mg "_law_step" f27 _ ["_law_program_here","_law_calls"]:=⟨AF X G a27,F27.kp,B27⟩
 have B28:=F28.binds (ps:=["_law_machine","_law_program_here","_law_calls"]) fun _ _ _ _ _ _ us hl=>match us,hl with | [_,_,_],_=>rfl
 have C28:Cal K mg "_law_stands" f28 _ ["_law_machine","_law_program_here","_law_calls"]:=⟨AF X G a28,F28.kp,B28⟩
 have B30:=F30.binds (ps:=["self","procedure","path","numbers","receiver"]) fun _ _ _ _ _ _ us hl=>match us,hl with | [_,_,_,_,_],_=>rfl
 have C30:MCal K CF "__init__" f30 _ ["self","procedure","path","numbers","receiver"]:=⟨⟨a30,i30,F30.kp⟩,B30⟩
 have B31:=F31.binds (ps:=["self"]) fun _ _ _ _ _ _ us hl=>match us,hl with | [_],_=>rfl
 have C31:MCal K CF "deed" f31 _ ["self"]:=⟨⟨a31,i31,F31.kp⟩,B31⟩
 have B32:=F32.binds (ps:=["self","path"]) fun _ _ _ _ _ _ us hl=>match us,hl with | [_,_],_=>rfl
 have C32:MCal K CF "move" f32 _ ["self","path"]:=⟨⟨a32,i32,F32.kp⟩,B32⟩
 have B33:=F33.binds (ps:=["self","word"]) fun _ _ _ _ _ _ us hl=>match us,hl with | [_,_],_=>rfl
 have C33:MCal K CF "number" f33 _ ["self","word"]:=⟨⟨a33,i33,F33.kp⟩,B33⟩
 have B34:=F34.binds (ps:=["self","program","name","path","values","heap"]) fun _ _ _ _ _ _ us hl=>match us,hl with | [_,_,_,_,_,_],_=>rfl
 have C34:MCal K CM "__init__" f34 _ ["self","program","name","path","values","heap"]:=⟨⟨a34,i34,F34.kp⟩,B34⟩
 have B35:=F35.binds (ps:=["self"]) fun _ _ _ _ _ _ us hl=>match us,hl with | [_],_=>rfl
 have C35:MCal K CM "word" f35 _ ["self"]:=⟨⟨a35,i35,F35.kp⟩,B35⟩
 have B36:=F36.binds (ps:=["self"]) fun _ _ _ _ _ _ us hl=>match us,hl with | [_],_=>rfl
 have C36:MCal K CM "where" f36 _ ["self"]:=⟨⟨a36,i36,F36.kp⟩,B36⟩
 have B37:=F37.binds (ps:=["self"]) fun _ _ _ _ _ _ us hl=>match us,hl with | [_],_=>rfl
 have C37:MCal K CM "held" f37 _ ["self"]:=⟨⟨a37,i37,F37.kp⟩,B37⟩
 have B38:=F38.binds (ps:=["self"]) fun _ _ _ _ _ _ us hl=>match us,hl with | [_],_=>rfl
 have C38:MCal K CM "heap" f38 _ ["self"]:=⟨⟨a38,i38,F38.kp⟩,B38⟩
 have B39:=F39.binds (ps:=["self"]) fun _ _ _ _ _ _ us hl=>match us,hl with | [_],_=>rfl
 have C39:MCal K CM "step" f39 _ ["self"]:=⟨⟨a39,i39,F39.kp⟩,B39⟩
 have B40:=F40.binds (ps:=["self","frame","deed"]) fun _ _ _ _ _ _ us hl=>match us,hl with | [_,_,_],_=>rfl
 have C40:MCal K CM "branch" f40 _ ["self","frame","deed"]:=⟨⟨a40,i40,F40.kp⟩,B40⟩
 have B41:=F41.binds (ps:=["self","frame","deed"]) fun _ _ _ _ _ _ us hl=>match us,hl with | [_,_,_],_=>rfl
 have C41:MCal K CM "enter" f41 _ ["self","frame","deed"]:=⟨⟨a41,i41,F41.kp⟩,B41⟩
 have B42:=F42.binds (ps:=["self"]) fun _ _ _ _ _ _ us hl=>match us,hl with | [_],_=>rfl
 have C42:MCal K CM "leave_ended" f42 _ ["self"]:=⟨⟨a42,i42,F42.kp⟩,B42⟩
 have B43:=F43.binds (ps:=["self","frame","deed"]) fun _ _ _ _ _ _ us hl=>match us,hl with | [_,_,_],_=>rfl
 have C43:MCal K CM "change" f43 _ ["self","frame","deed"]:=⟨⟨a43,i43,F43.kp⟩,B43⟩
 have C:Con K mg w:={
   len:=AU X G z1
   all:=AU X G z2
   any:=AU X G z3
   isi:=AU X G z4
   list:=AU X G z5
   int:=AU X G z6
   bool:=AU X G z7
   str:=AU X G z8
   dict:=AU X G z9
   sorted:=AU X G z10
   set:=AU X G z11
   sum:=AU X G z12
   range:=AU X G z13
   tuple:=AU X G z14
   max:=AU X G z15
   zip:=AU X G z16
   min:=AU X G z17
   enumerate:=AU X G z18
   letters:=v5 X G gL eL
   figures:=v5 X G gF eF
   mostSigns:=a61 X G gS eS
   noNames:=⟨aN,l7 X G gN,fun _=>.inr ⟨oN,itN,nN,lN,cN,dN,A0 sN (by decide),vN⟩⟩
   fields:=⟨aT,l7 X G gT,(fun _=>.inr ⟨oT,itT,nT,lT,cT,dT,A0 sT (by decide),vT⟩),oT,lT,cT,bT⟩
   places:=⟨aE,l7 X G gE,ec,nE,lE,hE,mE,rE⟩
   forms:=⟨aP,[("set",t1),("read",t2),("write",t3),("new",t4),("free",t5)],l7 X G gP,⟨es,nP,lP,hP,mP,rP⟩,rfl,fun w t r h1 h2 H=>by
     have S1:SqT K H t1 (([("name" : Str),"value"]:List Str).map V.str):=.inr ⟨o1,it1,n1,lT1,cT1,dT1,A0 sT1 (by decide),vT1⟩
     have S2:SqT K H t2 (([("name" : Str),"name","field"]:List Str).map V.str):=.inr ⟨o2,it2,n2,lT2,cT2,dT2,A0 sT2 (by decide),vT2⟩
     have S3:SqT K H t3 (([("name" : Str),"field","value"]:List Str).map V.str):=.inr ⟨o3,it3,n3,lT3,cT3,dT3,A0 sT3 (by decide),vT3⟩
     have S4:SqT K H t4 (([("name" : Str),"value","value"]:List Str).map V.str):=.inr ⟨o4,it4,n4,lT4,cT4,dT4,A0 sT4 (by decide),vT4⟩
     have S5:SqT K H t5 (([("name" : Str)]:List Str).map V.str):=.inr ⟨o5,it5,n5,lT5,cT5,dT5,A0 sT5 (by decide),vT5⟩
     have hl:=iw lg h2
     simp only[Aq,AE,or_false,Prod.mk.injEq] at h1
     rcases h1 with⟨rfl,rfl⟩|⟨rfl,rfl⟩|⟨rfl,rfl⟩|⟨rfl,rfl⟩|⟨rfl,rfl⟩
     . rw[show forms.lookup ("set" : Str)=some [("name" : Str),"value"] by decide +kernel] at hl;cases hl;exact S1
     . rw[show forms.lookup ("read" : Str)=some [("name" : Str),"name","field"] by decide +kernel] at hl;cases hl;exact S2
     . rw[show forms.lookup ("write" : Str)=some [("name" : Str),"field","value"] by decide +kernel] at hl;cases hl;exact S3
     . rw[show forms.lookup ("new" : Str)=some [("name" : Str),"value","value"] by decide +kernel] at hl;cases hl;exact S4
     . rw[show forms.lookup ("free" : Str)=some [("name" : Str)] by decide +kernel] at hl;cases hl;exact S5⟩ }
 obtain⟨_,_,kV,dc,pm,an,cd,ct,_,rfl,_,_⟩:=id F29.ex
 refine⟨DC "law" "law" (jl sLaw) (gr sLaw) (aq sLaw) .none kV dc pm an cd ct,fun s v=>.of_eq rfl,fun base _ _=>?_⟩
 have O1:=a3l (P:=l.prog) (base:=base) C F1
 have O2:=a0i (P:=l.prog) (base:=base) C F2
 have U:TxF K mg CF f30:=⟨⟨pgFrame,hdFrame,poFrame,saFrame⟩,nFrame0,nFrame1,nFrame2,nFrame3,AF X G aCFrame,⟨mkFrame,a30,i30,kcFrame⟩⟩
 have T:TxM K mg CM f34:=⟨⟨pgMachine,hdMachine,poMachine,saMachine⟩,nMachine0,nMachine1,nMachine2,nMachine3,nMachine4,AF X G aCMachine,⟨mkMachine,a34,i34,kcMachine⟩⟩
 have O4:=a0l (P:=l.prog) (base:=base) C F4
 have s0:FnOk l.prog w K mg base CX0 1 f8 d8 ["deeds"] (spAll K []):=a7u
 have s1:=a8m (n:=0) (b:=30) C F8 O4 C4 s0 C8
 have O9:=yd  C F9 O2 C2
 have O10:=a0a (n:=1) (bs:=[30]) (by decide) C F10 O2 C2 s1 C8 O9 C9 O1 C1
 have O11:=a1h (P:=l.prog) (base:=base) C F11
 have O12:=a4k  C F12 O4 C4
 have O13:=a5s  C F13 O12 C12
 have O14:=a2s (P:=l.prog) (base:=base) C F14
 have O15:=a1e  C F15 O12 C12 O13 C13 O14 C14
 have w0:FnOk l.prog w K mg base CX0 1 f6 d6 ["deeds"] (spCopy K []):=a62
 have w1:=a8n (n:=0) C F5 w0 C6
 have w2:=a58 (n:=1) (b:=30) (by decide) C F6 w1 C5
 have O3:=a51 (P:=l.prog) (base:=base) C F3
 have O7:=y6 (P:=l.prog) (base:=base) C F7
 have O33:=a7n  U F33 O3 C3
 have O31:=a5q  U F31 O13 C13
 have O32:=a69  U F32 O15 C15
 have O30:=a6h (n:=4) (bs:=[30]) (by decide) C U F30 O15 C15 (O10.mono (by decide)) C10
 have O37:=a7x (P:=l.prog) (base:=base) C T U F37
 have O38:=a7r (P:=l.prog) (base:=base) C T F38
 have O35:=a88  C T U F35 O31 C31
 have O43:=a2p  C T U F43 O33 C33
 have O42:=a5v  C T U F42 O31 C31
 have O41:=a6e (n:=5) (by decide) C T U F41 O33 C33 O32 C32 O14 C14 O30 B30
 have O39:=a7i (n:=7) (by decide) C T U F39 O35 C35 O31 C31 O33 C33 C40 O41 C41 O43 C43 O32 C32 O42 C42 O7 C7 O14 C14
 have O34:=a56 (n:=5) (bs:=[30]) C T U F34 (w2.mono (by decide)) C6 O11 C11 O30 B30
 have O16:=a4j (P:=l.prog) (base:=base) C F16
 have O17:=a8c (P:=l.prog) (w:=w) (mg:=mg) (base:=base) F17
 have O18:=aa7  F18 O17 C17
 have O19:=a4y (P:=l.prog) (w:=w) (mg:=mg) (base:=base) F19
 have O20:=a3q (P:=l.prog) (base:=base) C F20
 have O21:=a5o  C F21 O18 C18 O19 C19 O20 C20
 have O36:=a5z  C T U F36 O35 C35
 have O22:=a8t  C F22 O19 C19
 have O26:=a9c (P:=l.prog) (base:=base) C F26
 have O23:=a5d  C F23 O16 C16
 have O24:=a7t  C F24 O16 C16 O23 C23 O18 C18 O19 C19 O22 C22
 have O25:=a87 (P:=l.prog) (base:=base) C F25
 have O27:=a6j  C F27 O26 C26 O25 C25
 have O28:=a3p  C T U F28 O35 C35 O36 C36 O37 C37 O38 C38
 exact a9e (n:=8) (by decide) C T U F29 O16 C16 O21 C21 O24 C24 O25 C25 O27 C27 O28 C28 (O34.mono (by decide)) B34 O39 C39 O35 C35
theorem walk {l:FT}{q:Program}{loose:List Str}{XP:(Str->Option Value)->Heap->Prop}{YP:World->Heap->Prop}{d:DefRec}{K:Params->Ab}(hn:l.most=some 63) (hdf:d.params.defaults=[])
   (hY:∀(w:World) (h:Heap),YP w h->(K w.params).In h)
   (F:∀(w:World) (mg:Str->Option Value) (fa:Addr) (h:Heap),(K w.params).In h->h.Ns mainGlobals mg->mg d.name=some (.ref fa)->
     ∃fd:FuncData,(∀(s:Shared) (u:Value),BindsTo s fd ⟨[u],[]⟩ [("_law_script",u)])/\∀base:Heap,(K w.params).In base->base.Ns mainGlobals mg->FnOk l.prog w (K w.params) mg base CX0 10 fa fd ["_law_script"] (uq (K w.params))) :
   IV q loose XP YP l.row.toRowW d [] (fun f vs=>II f vs) :=
 L2.walk_of (n:=63) (k:=10) (x := "_law_script") (CX:=fun _=>CX0) (sp:=fun w=>uq (K w.params)) hn (by decide) hdf ⟨rfl,by decide,by decide⟩ hY F (fun _ _ a ns hl _ hS=>⟨a,ns,rfl,hS,fun _=>rfl⟩) fun _ _ _ _ _ z=>z
end K52
open PySem PySem.W PyProof.Rows
namespace PySem.W.Fast
theorem tw9561370336679782916 : True := ⟨⟩
theorem tw631882164466114378 : True := ⟨⟩
theorem tw16391386770835733161 : True := ⟨⟩
theorem tw9550083965811831535 : True := ⟨⟩
theorem tw14026696043188714592 : True := ⟨⟩
theorem tw10161671170509677221 : True := ⟨⟩
theorem tw3123671842668589361 : True := ⟨⟩
theorem tw15174635721606298772 : True := ⟨⟩
theorem tw1352374535684032250 : True := ⟨⟩
theorem tw8329701606772107897 : True := ⟨⟩
theorem tw655185939499018732 : True := ⟨⟩
theorem tw8790180545633029350 : True := ⟨⟩
theorem tw17439988114487389765 : True := ⟨⟩
theorem tw3782412386463183527 : True := ⟨⟩
theorem tw5924220395697209676 : True := ⟨⟩
theorem tw11697190381281239420 : True := ⟨⟩
theorem tw13091027551254419079 : True := ⟨⟩
theorem tw5329916424322344788 : True := ⟨⟩
theorem tw8691367430656084480 : True := ⟨⟩
theorem tw13993111060680935455 : True := ⟨⟩
theorem tw849099545344274264 : True := ⟨⟩
theorem tw9606245948383427531 : True := ⟨⟩
theorem tw12584966909543059436 : True := ⟨⟩
theorem tw8331123781092876783 : True := ⟨⟩
theorem tw11389769130065932106 : True := ⟨⟩
theorem tw6479723176331292035 : True := ⟨⟩
theorem tw13569328557901009337 : True := ⟨⟩
theorem tw2106050148363431376 : True := ⟨⟩
theorem tw10654365451000879431 : True := ⟨⟩
theorem tw3523630248051913421 : True := ⟨⟩
theorem tw14190966114280155999 : True := ⟨⟩
theorem tw7071833954510050053 : True := ⟨⟩
theorem tw9347830688823968546 : True := ⟨⟩
theorem tw11716412433093952350 : True := ⟨⟩
theorem tw10983271477382181712 : True := ⟨⟩
theorem tw14877348131388123970 : True := ⟨⟩
theorem tw7695403587856391108 : True := ⟨⟩
theorem tw13812024958206990552 : True := ⟨⟩
theorem tw16360075288853267211 : True := ⟨⟩
theorem tw16261904924473066467 : True := ⟨⟩
theorem tw11270734533287632785 : True := ⟨⟩
theorem tw1579408624414929906 : True := ⟨⟩
theorem tw6758237139537822857 : True := ⟨⟩
theorem tw17182696903155407072 : True := ⟨⟩
theorem tw16215456635622726680 : True := ⟨⟩
theorem tw17942604227484274074 : True := ⟨⟩
theorem tw2470975599983736756 : True := ⟨⟩
theorem tw1161322144885061218 : True := ⟨⟩
theorem tw12644948012689535672 : True := ⟨⟩
theorem tw15187251195919973689 : True := ⟨⟩
theorem tw11613172876273836820 : True := ⟨⟩
theorem tw3270721736989701317 : True := ⟨⟩
theorem tw5256761619457412576 : True := ⟨⟩
theorem tw11097295438518339910 : True := ⟨⟩
theorem tw3343050725985616414 : True := ⟨⟩
theorem tw9368654632662808133 : True := ⟨⟩
theorem tw4754409478957445956 : True := ⟨⟩
theorem tw3620438050134301752 : True := ⟨⟩
theorem tw15248983669484964159 : True := ⟨⟩
theorem tw9865074821726016770 : True := ⟨⟩
theorem tw17408713684489153447 : True := ⟨⟩
theorem tw1749982174336798200 : True := ⟨⟩
theorem tw12394041215485244390 : True := ⟨⟩
theorem tw16958655487351622217 : True := ⟨⟩
theorem tw13064867684976197399 : True := ⟨⟩
theorem tw7945215525060911225 : True := ⟨⟩
theorem tw18236447983820061252 : True := ⟨⟩
theorem tw6570250021815876765 : True := ⟨⟩
theorem tw8540824827996574364 : True := ⟨⟩
theorem tw3577503212090272769 : True := ⟨⟩
theorem tw15455543000433807156 : True := ⟨⟩
theorem tw10360017977136396860 : True := ⟨⟩
theorem tw11582829781486152861 : True := ⟨⟩
theorem tw17019495939069246182 : True := ⟨⟩
theorem tw9417306335591937340 : True := ⟨⟩
theorem tw14716393649812319923 : True := ⟨⟩
theorem tw16973104067611251919 : True := ⟨⟩
theorem tw6134491377272081489 : True := ⟨⟩
theorem tw14904278243239191833 : True := ⟨⟩
theorem tw5411770572403962874 : True := ⟨⟩
theorem tw4232990329887430504 : True := ⟨⟩
theorem tw640305520238288792 : True := ⟨⟩
theorem tw16987692020403107244 : True := ⟨⟩
theorem tw13762783402320260794 : True := ⟨⟩
theorem tw8802230444516173471 : True := ⟨⟩
theorem tw6159322081519118230 : True := ⟨⟩
theorem tw11231268562155474887 : True := ⟨⟩
theorem tw4605085103930086552 : True := ⟨⟩
theorem tw8868785449074502405 : True := ⟨⟩
theorem tw10281759326026570160 : True := ⟨⟩
theorem tw15250807738614709381 : True := ⟨⟩
theorem tw17335660233051846722 : True := ⟨⟩
theorem tw3270689089666837128 : True := ⟨⟩
theorem tw5603942550733405119 : True := ⟨⟩
theorem tw13210805784537317345 : True := ⟨⟩
theorem tw12749941485558710778 : True := ⟨⟩
theorem tw15719011721863399833 : True := ⟨⟩
theorem tw3305265376269099674 : True := ⟨⟩
theorem tw17308530330716419622 : True := ⟨⟩
theorem tw11891692068305845615 : True := ⟨⟩
theorem tw14757053067926713765 : True := ⟨⟩
theorem tw6202642842187994063 : True := ⟨⟩
theorem tw18005693434301366380 : True := ⟨⟩
theorem tw17816878068594258911 : True := ⟨⟩
theorem tw9560464719901674426 : True := ⟨⟩
theorem tw16870070579227245279 : True := ⟨⟩
theorem tw6577668603486314319 : True := ⟨⟩
theorem tw17616085202861049300 : True := ⟨⟩
theorem tw4692951250165676232 : True := ⟨⟩
theorem tw79446370584354787 : True := ⟨⟩
theorem tw7880823733355465906 : True := ⟨⟩
theorem tw8821509354351283833 : True := ⟨⟩
theorem tw15442041388723379724 : True := ⟨⟩
theorem tw761154385735121028 : True := ⟨⟩
theorem tw2990935514673332737 : True := ⟨⟩
theorem tw6017782433694166337 : True := ⟨⟩
theorem tw5624079285411724592 : True := ⟨⟩
theorem tw1153386720163443094 : True := ⟨⟩
theorem tw5793758487766656202 : True := ⟨⟩
theorem tw8140853509054714418 : True := ⟨⟩
theorem tw15070324906584359030 : True := ⟨⟩
theorem tw4001105514512881371 : True := ⟨⟩
end PySem.W.Fast
set_option maxRecDepth 100000 in
set_option maxHeartbeats 0 in
theorem PySem.Challenge.cw_apart_k52_calls_within_calls_holds : PySem.Challenge.rw_apart_k52_calls_within_calls.Holds := by
 w_on; o_law; k_head; (case hw => w_witness2)
 k_fill
 refine K52.walk (l := PySem.Challenge.rw_apart_k52_calls_within_calls) rfl rfl (fun w h Y => PySem.W.kIn_of Y) ?F
 case F =>
   intro w mg fa h KX G hmg
   refine' K52.all_mk KX G hmg ?aCFrame ?aCMachine ?a1 ?F1 ?a2 ?F2 ?a3 ?F3 ?a4 ?F4 ?a5 ?F5 ?a6 ?F6 ?a7 ?F7 ?a8 ?F8 ?a9 ?F9 ?a10 ?F10 ?a11 ?F11 ?a12 ?F12 ?a13 ?F13 ?a14 ?F14 ?a15 ?F15 ?a16 ?F16 ?a17 ?F17 ?a18 ?F18 ?a19 ?F19 ?a20 ?F20 ?a21 ?F21 ?a22 ?F22 ?a23 ?F23 ?a24 ?F24 ?a25 ?F25 ?a26 ?F26 ?a27 ?F27 ?a28 ?F28 ?a29 ?F29 ?a30 ?i30 ?F30 ?a31 ?i31 ?F31 ?a32 ?i32 ?F32 ?a33 ?i33 ?F33 ?a34 ?i34 ?F34 ?a35 ?i35 ?F35 ?a36 ?i36 ?F36 ?a37 ?i37 ?F37 ?a38 ?i38 ?F38 ?a39 ?i39 ?F39 ?a40 ?i40 ?F40 ?a41 ?i41 ?F41 ?a42 ?i42 ?F42 ?a43 ?i43 ?F43 ?pgFrame ?hdFrame ?poFrame ?saFrame ?mkFrame ?kcFrame ?nFrame0 ?nFrame1 ?nFrame2 ?nFrame3 ?pgMachine ?hdMachine ?poMachine ?saMachine ?mkMachine ?kcMachine ?nMachine0 ?nMachine1 ?nMachine2 ?nMachine3 ?nMachine4 ?z1 ?z2 ?z3 ?z4 ?z5 ?z6 ?z7 ?z8 ?z9 ?z10 ?z11 ?z12 ?z13 ?z14 ?z15 ?z16 ?z17 ?z18 ?gL ?eL ?gF ?eF ?gS ?eS ?gN ?lN ?cN ?dN ?sN ?vN ?gT ?lT ?cT ?dT ?sT ?bT ?vT ?gP ?lP ?hP ?mP ?rP ?lT1 ?cT1 ?dT1 ?sT1 ?vT1 ?lT2 ?cT2 ?dT2 ?sT2 ?vT2 ?lT3 ?cT3 ?dT3 ?sT3 ?vT3 ?lT4 ?cT4 ?dT4 ?sT4 ?vT4 ?lT5 ?cT5 ?dT5 ?sT5 ?vT5 ?gE ?lE ?hE ?mE ?rE
   (case aCFrame => k_is)
   (case aCMachine => k_is)
   (case a1 => k_is)
   (case F1 => (refine' L2.fun_mk ?l ?c ?k; (case l => k_is); (case c => k_is); (case k => k_is)))
   (case a2 => k_is)
   (case F2 => (refine' L2.fun_mk ?l ?c ?k; (case l => k_is); (case c => k_is); (case k => k_is)))
   (case a3 => k_is)
   (case F3 => (refine' L2.fun_mk ?l ?c ?k; (case l => k_is); (case c => k_is); (case k => k_is)))
   (case a4 => k_is)
   (case F4 => (refine' L2.fun_mk ?l ?c ?k; (case l => k_is); (case c => k_is); (case k => k_is)))
   (case a5 => k_is)
   (case F5 => (refine' L2.fun_mk ?l ?c ?k; (case l => k_is); (case c => k_is); (case k => k_is)))
   (case a6 => k_is)
   (case F6 => (refine' L2.fun_mk ?l ?c ?k; (case l => k_is); (case c => k_is); (case k => k_is)))
   (case a7 => k_is)
   (case F7 => (refine' L2.fun_mk ?l ?c ?k; (case l => k_is); (case c => k_is); (case k => k_is)))
   (case a8 => k_is)
   (case F8 => (refine' L2.fun_mk ?l ?c ?k; (case l => k_is); (case c => k_is); (case k => k_is)))
   (case a9 => k_is)
   (case F9 => (refine' L2.fun_mk ?l ?c ?k; (case l => k_is); (case c => k_is); (case k => k_is)))
   (case a10 => k_is)
   (case F10 => (refine' L2.fun_mk ?l ?c ?k; (case l => k_is); (case c => k_is); (case k => k_is)))
   (case a11 => k_is)
   (case F11 => (refine' L2.fun_mk ?l ?c ?k; (case l => k_is); (case c => k_is); (case k => k_is)))
   (case a12 => k_is)
   (case F12 => (refine' L2.fun_mk ?l ?c ?k; (case l => k_is); (case c => k_is); (case k => k_is)))
   (case a13 => k_is)
   (case F13 => (refine' L2.fun_mk ?l ?c ?k; (case l => k_is); (case c => k_is); (case k => k_is)))
   (case a14 => k_is)
   (case F14 => (refine' L2.fun_mk ?l ?c ?k; (case l => k_is); (case c => k_is); (case k => k_is)))
   (case a15 => k_is)
   (case F15 => (refine' L2.fun_mk ?l ?c ?k; (case l => k_is); (case c => k_is); (case k => k_is)))
   (case a16 => k_is)
   (case F16 => (refine' L2.fun_mk ?l ?c ?k; (case l => k_is); (case c => k_is); (case k => k_is)))
   (case a17 => k_is)
   (case F17 => (refine' L2.fun_mk ?l ?c ?k; (case l => k_is); (case c => k_is); (case k => k_is)))
   (case a18 => k_is)
   (case F18 => (refine' L2.fun_mk ?l ?c ?k; (case l => k_is); (case c => k_is); (case k => k_is)))
   (case a19 => k_is)
   (case F19 => (refine' L2.fun_mk ?l ?c ?k; (case l => k_is); (case c => k_is); (case k => k_is)))
   (case a20 => k_is)
   (case F20 => (refine' L2.fun_mk ?l ?c ?k; (case l => k_is); (case c => k_is); (case k => k_is)))
   (case a21 => k_is)
   (case F21 => (refine' L2.fun_mk ?l ?c ?k; (case l => k_is); (case c => k_is); (case k => k_is)))
   (case a22 => k_is)
   (case F22 => (refine' L2.fun_mk ?l ?c ?k; (case l => k_is); (case c => k_is); (case k => k_is)))
   (case a23 => k_is)
   (case F23 => (refine' L2.fun_mk ?l ?c ?k; (case l => k_is); (case c => k_is); (case k => k_is)))
   (case a24 => k_is)
   (case F24 => (refine' L2.fun_mk ?l ?c ?k; (case l => k_is); (case c => k_is); (case k => k_is)))
   (case a25 => k_is)
   (case F25 => (refine' L2.fun_mk ?l ?c ?k; (case l => k_is); (case c => k_is); (case k => k_is)))
   (case a26 => k_is)
   (case F26 => (refine' L2.fun_mk ?l ?c ?k; (case l => k_is); (case c => k_is); (case k => k_is)))
   (case a27 => k_is)
   (case F27 => (refine' L2.fun_mk ?l ?c ?k; (case l => k_is); (case c => k_is); (case k => k_is)))
   (case a28 => k_is)
   (case F28 => (refine' L2.fun_mk ?l ?c ?k; (case l => k_is); (case c => k_is); (case k => k_is)))
   (case a29 => k_is)
   (case F29 => (refine' L2.fun_mk ?l ?c ?k; (case l => k_is); (case c => k_is); (case k => k_is)))
   (case a30 => k_is)
   (case i30 => k_is)
   (case F30 => (refine' L2.fun_mk ?l ?c ?k; (case l => k_is); (case c => k_is); (case k => k_is)))
   (case a31 => k_is)
   (case i31 => k_is)
   (case F31 => (refine' L2.fun_mk ?l ?c ?k; (case l => k_is); (case c => k_is); (case k => k_is)))
   (case a32 => k_is)
   (case i32 => k_is)
   (case F32 => (refine' L2.fun_mk ?l ?c ?k; (case l => k_is); (case c => k_is); (case k => k_is)))
   (case a33 => k_is)
   (case i33 => k_is)
   (case F33 => (refine' L2.fun_mk ?l ?c ?k; (case l => k_is); (case c => k_is); (case k => k_is)))
   (case a34 => k_is)
   (case i34 => k_is)
   (case F34 => (refine' L2.fun_mk ?l ?c ?k; (case l => k_is); (case c => k_is); (case k => k_is)))
   (case a35 => k_is)
   (case i35 => k_is)
   (case F35 => (refine' L2.fun_mk ?l ?c ?k; (case l => k_is); (case c => k_is); (case k => k_is)))
   (case a36 => k_is)
   (case i36 => k_is)
   (case F36 => (refine' L2.fun_mk ?l ?c ?k; (case l => k_is); (case c => k_is); (case k => k_is)))
   (case a37 => k_is)
   (case i37 => k_is)
   (case F37 => (refine' L2.fun_mk ?l ?c ?k; (case l => k_is); (case c => k_is); (case k => k_is)))
   (case a38 => k_is)
   (case i38 => k_is)
   (case F38 => (refine' L2.fun_mk ?l ?c ?k; (case l => k_is); (case c => k_is); (case k => k_is)))
   (case a39 => k_is)
   (case i39 => k_is)
   (case F39 => (refine' L2.fun_mk ?l ?c ?k; (case l => k_is); (case c => k_is); (case k => k_is)))
   (case a40 => k_is)
   (case i40 => k_is)
   (case F40 => (refine' L2.fun_mk ?l ?c ?k; (case l => k_is); (case c => k_is); (case k => k_is)))
   (case a41 => k_is)
   (case i41 => k_is)
   (case F41 => (refine' L2.fun_mk ?l ?c ?k; (case l => k_is); (case c => k_is); (case k => k_is)))
   (case a42 => k_is)
   (case i42 => k_is)
   (case F42 => (refine' L2.fun_mk ?l ?c ?k; (case l => k_is); (case c => k_is); (case k => k_is)))
   (case a43 => k_is)
   (case i43 => k_is)
   (case F43 => (refine' L2.fun_mk ?l ?c ?k; (case l => k_is); (case c => k_is); (case k => k_is)))
   (case pgFrame => k_is)
   (case hdFrame => k_is)
   (case poFrame => k_is)
   (case saFrame => k_is)
   (case mkFrame => k_is)
   (case kcFrame => k_is)
   (case nFrame0 => k_is)
   (case nFrame1 => k_is)
   (case nFrame2 => k_is)
   (case nFrame3 => k_is)
   (case pgMachine => k_is)
   (case hdMachine => k_is)
   (case poMachine => k_is)
   (case saMachine => k_is)
   (case mkMachine => k_is)
   (case kcMachine => k_is)
   (case nMachine0 => k_is)
   (case nMachine1 => k_is)
   (case nMachine2 => k_is)
   (case nMachine3 => k_is)
   (case nMachine4 => k_is)
   (case z1 => k_is)
   (case z2 => k_is)
   (case z3 => k_is)
   (case z4 => k_is)
   (case z5 => k_is)
   (case z6 => k_is)
   (case z7 => k_is)
   (case z8 => k_is)
   (case z9 => k_is)
   (case z10 => k_is)
   (case z11 => k_is)
   (case z12 => k_is)
   (case z13 => k_is)
   (case z14 => k_is)
   (case z15 => k_is)
   (case z16 => k_is)
   (case z17 => k_is)
   (case z18 => k_is)
   (case gL => k_is)
   (case eL => decide +kernel)
   (case gF => k_is)
   (case eF => decide +kernel)
   (case gS => k_is)
   (case eS => rfl)
   (case gN => k_is)
   (case lN => k_is)
   (case cN => rfl)
   (case dN => rfl)
   (case sN => decide)
   (case vN => repeat (first | exact .nil | refine .cons ⟨_, rfl⟩ ?_))
   (case gT => k_is)
   (case lT => k_is)
   (case cT => rfl)
   (case dT => rfl)
   (case sT => decide)
   (case bT => rfl)
   (case vT => repeat (first | exact .nil | refine .cons ⟨_, rfl⟩ ?_))
   (case gP => k_is)
   (case lP => k_is)
   (case hP => exact ⟨⟨_, _, rfl, rfl⟩, ⟨_, _, rfl, rfl⟩, ⟨_, _, rfl, rfl⟩, ⟨_, _, rfl, rfl⟩, ⟨_, _, rfl, rfl⟩, trivial⟩)
   (case mP => rfl)
   (case rP => exact K52.rel_find (.cons ⟨_, _, _, rfl, rfl⟩ (.cons ⟨_, _, _, rfl, rfl⟩ (.cons ⟨_, _, _, rfl, rfl⟩ (.cons ⟨_, _, _, rfl, rfl⟩ (.cons ⟨_, _, _, rfl, rfl⟩ (.nil)))))))
   (case lT1 => k_is)
   (case cT1 => rfl)
   (case dT1 => rfl)
   (case sT1 => decide)
   (case vT1 => repeat (first | exact .nil | refine .cons ⟨_, rfl⟩ ?_))
   (case lT2 => k_is)
   (case cT2 => rfl)
   (case dT2 => rfl)
   (case sT2 => decide)
   (case vT2 => repeat (first | exact .nil | refine .cons ⟨_, rfl⟩ ?_))
   (case lT3 => k_is)
   (case cT3 => rfl)
   (case dT3 => rfl)
   (case sT3 => decide)
   (case vT3 => repeat (first | exact .nil | refine .cons ⟨_, rfl⟩ ?_))
   (case lT4 => k_is)
   (case cT4 => rfl)
   (case dT4 => rfl)
   (case sT4 => decide)
   (case vT4 => repeat (first | exact .nil | refine .cons ⟨_, rfl⟩ ?_))
   (case lT5 => k_is)
   (case cT5 => rfl)
   (case dT5 => rfl)
   (case sT5 => decide)
   (case vT5 => repeat (first | exact .nil | refine .cons ⟨_, rfl⟩ ?_))
   (case gE => k_is)
   (case lE => k_is)
   (case hE => exact ⟨⟨_, _, rfl, rfl⟩, ⟨_, _, rfl, rfl⟩, ⟨_, _, rfl, rfl⟩, trivial⟩)
   (case mE => rfl)
   (case rE => exact K52.rel_find (.cons ⟨_, _, _, rfl, ⟨_, rfl⟩⟩ (.cons ⟨_, _, _, rfl, ⟨_, rfl⟩⟩ (.cons ⟨_, _, _, rfl, ⟨_, rfl⟩⟩ (.nil)))))
