import PyProof.Rows.All
import Wide.All
import OpenK.AllK
import Wide.FinOn
import Lean
import PyProof.EqAt
import PyProof.EqKinds
import PyProof.TupleCall
import PySem.Challenge.RW_apart_k56_whole_cells_beside
set_option maxHeartbeats 16000000
set_option Elab.async false
set_option linter.all false
set_option compiler.extract_closed false
set_option maxRecDepth 100000
set_option autoImplicit true
open PySem renaming wpAny_bind->Aa,wpAny_pure->Ae,Spec->AR,boot_len->AV,wpAny_holding->AX,wpAny_newObj_type->AZ,wpAny_seqItems->Bl,wpAny_callSpecial?_slot->Bm,wpAny_field->Bn,wpAny_call_entry->Bp,wpAny_setField_rec->Bq,codeAny_builtin->BI,mem_of_lookup->BQ,wpAny_mono->BR,plainId_quiet->BS,wpAny_truthy_bool->BY,builtinLookup_eq_fast->Cg,wpAny_pyIter_list->Cp,wpAny_rule->Cz,lookup_relabel_local->CD,wpAny_typeOf->CT,wpAny_passesOwn->CZ,typeLookup_type->Dc,wpAny_attempt->Di,wpAny_tryCatch->Dr,wpAny_Call_Name_kw->DB,wpAny_letGo->DJ,wpAny_typeNameOfWhole_keyiter->DK,wpAny_setState_of->DN,codeAny_mono->DP,codeAny_call_builtin->DY,wpAny_isInstance->DZ,wpAny_updateSeq_pair->Ec,wpAny_updateSeq->Ej,wpAny_pyIter_tuple->Em,tupleKind_room_in1->Et,wpAny_typeNameOf_keyiter->Eu,isSubtype_type->E9,wpAny_pyNext_list_item->EK,wpAny_of_eq->EM,wpAny_standAt->EO,wpAny_onRaise->ER,wpAny_pyNext_list_end->ET,wpAny_isOneOf_keyiter->EU,wpAny_notOrdered_dict->EV,wpAny_execs_nil->EZ,call_meetsIn->Fg,wpAny_setEntries_of->Fm,wpAny_raiseNew_none->Fn,wpAny_fieldsOf->Fs,isSubtype_stop->Ft,wpAny_setField->Fu,sizeLine_eq->Fy,wpAny_assign_Name->FR,slot_list_getitem->FS,fits_of_scanBound->FT,wpAny_pyIter_slot->FU,wpAny_setEpoch_of->FV,wpAny_Call_method->FW,strKind_is->FZ,noFill_tuple_add->Gf,wpAny_getItem_list_slice->Gg,wpAny_comprehension_free->Gi,wpAny_askSetting->Gk,wpAny_pyIter_zip->Gu,wpAny_specialOf->He,wpAny_pyNext_range_end->Hi,wpAny_pyIter_rangeiter->Hj,wpAny_Call_method_late->Hm,codeAny_compStart_list->Hn,wpAny_nextOf_list_item->Hx,wpAny_isTrue_Compare1->Hy,entryFor_alias->HH,wpAny_newTuple->HQ,wpAny_call->HX,typeIs_str->HY,wpAny_newFunctionEnv->Ib,seq_tuple_add->Ii,evalPart_none->Ij,wpAny_dictSet_pairs->Ip,Within->Iv,wpAny_pyIter_range->Iw,concat_meets->IF,seqIndex_neg->II,putSet_of->IK,wpAny_sequenceKey->IT,wpAny_storeSet_of->IW,wpAny_dictEntries->Ja,seqIndex_of->Je,wpAny_execs_cons->Jf,wpAny_getItem_of->Ji,kt_code_dict_new->Jl,wpAny_Name->Jq,wpAny_load->Jr,call_meets->Jt,call->Ju,Builtin->JG
open PySem.Heap renaming get?_push_of_some->Ab,get?_push_size->An,lt_size->As,size_push->Bj,get?_update_other->Bv,get?_update_self->B7,SameBut->Cu,get?_none_of_le->EY,ExtBut->Ho,get?_update_ne->Io,IsTuple->IQ,size_update->Jj,IsList->JR
open PySem.W renaming Frag->Ac,nsIn->Av,findIn->AG,mg_none_of->AY,isFn->BA,emptyDict->BZ,keepIn->CA,instObj->CC,fnOf->CS,plainGet->Ds,mg_of->DA,hasDictIn->DL,plainOver->EF,makesIn->Fb,plainGet_of->Fl,lookIn->Fp,callWith_K->Fz,methodObj->FQ,takerIn->Hb,OpenLaw->Hc,KeysLit->Hf,cellsFrom_some->Hk,methodCall_KW->Hz,codeIn->HF,handedIn->Jg,mapOf_K->Jv,WalkO->JF
open List renaming length_map->Ad,mem_cons_self->Af,getElem?_eq_getElem->Ag,mem_cons->Ah,length_append->Aj,mem_cons_of_mem->Al,getElem?_map->Am,mem_singleton->Ao,mem_append->Ap,size_toArray->Aq,map_cons->Ar,map_append->Au,getElem?_eq_some_iff->Aw,not_mem_nil->Ay,mem_map->Az,length_cons->AC,mem_append_left->AD,mem_of_getElem?->AE,mem_append_right->AF,length_take->AQ,nodup_cons->AU,length_singleton->Ba,length_drop->Bc,map_map->Bd,take_of_length_le->Bg,mem_map_of_mem->Br,mem_flatMap->Bt,getElem?_eq_none->Bu,eq_nil_of_length_eq_zero->B0,map_congr_left->BE,getD_eq_getElem?_getD->BF,flatMap_singleton->BH,find?_cons->BJ,length_filter_le->BM,take_length->BP,mem_of_mem_take->BV,take_add_one->Ca,append_assoc->Cb,flatMap_append->Cd,range->Ce,lookup_cons->Cj,sum_cons->Cm,getElem?_of_mem->Cn,nodup_append->Cq,flatMap_cons->Cs,any_cons->Cy,getElem_mem->C0,getElem?_toArray->CB,mem_of_mem_drop->CI,length_pos_iff->CL,drop_zero->CO,zip_cons_cons->CW,mem_filter->CY,append_nil->Da,reverse_cons->Dk,map_id->Do,mem_range->Dq,getElem?_take_of_lt->Dt,all_eq_true->Dv,filterMap_cons->Dw,pairwise_singleton->Dz,filter_append->DD,forIn_cons->DE,length_zip->DF,take_zero->DQ,forIn_nil->DT,dropLast_concat_getLast->DV,getElem?_concat_length->DW,any_eq_true->DX,lookup->Ee,getElem_of_mem->Ef,length_reverse->Eg,length_nil->Ek,getElem?_zip_eq_some->El,nodup_nil->E8,getElem?_cons_succ->EB,filter_cons_of_pos->EC,filter_cons_of_neg->ED,take_sublist->EG,length_range->EH,filter_cons->ES,of_mem_zip->Fc,dropLast_concat->Fj,getElem?_append_right->FH,length_eraseIdx_of_lt->FL,map_take->FO,getElem?_append_left->FX,drop_eq_getElem_cons->Ge,zipIdx_cons->Gs,filterMap_cons_none->G0,filterMap_cons_some->GJ,zipIdx_nil->Hg,getElem?_set_self->Hh,length->Hl,drop_eq_nil_of_le->Hs,length_replicate->HE,singleton_append->HI,take_append_drop->HR,perm_append_comm->HV,getElem?_set_ne->HW,map_drop->Ik,filter_eq_self->Iq,mem_filterMap->Iy,filterMap_map->IG,ext_getElem?->IY,getElem?_inj->Jb,drop_length->Jn,cons_ne_nil->Jp,length_set->Js,filter_nil->Jw,filter_map->Jx,sum_append->J0,replicate->J8,take_succ->JA,all_cons->JE,map_nil->JK
open Bool renaming false_ne_true->Ai,false_eq_true->By,and_eq_true->BO,eq_iff_iff->Ct,false_and->Fo,not_eq_true'->Jd,or_false->JD,true_and->JI
open Nat renaming le_refl->Ak,le_trans->Ax,ne_of_lt->AA,zero_le->AH,lt_of_lt_of_le->AK,lt_of_le_of_lt->AN,le_succ->Bs,lt_irrefl->Bx,le_add_right->B9,le_of_lt->BK,ne_of_gt->BX,add_le_add_left->Cc,lt_succ_self->Ci,lt_succ_of_lt->Cr,min_eq_left->Df,sub_zero->Es,mod_lt->Fe,not_lt_zero->Fi,add_sub_cancel->FD,le_of_not_lt->Gh,min_eq_right->Gr,succ_le_succ->Gv,lt_or_ge->Gz,add_le_add_right->Ie,le_of_eq->IB,eq_zero_or_pos->IM,min_self->IR,mod_eq_of_lt->Jo,add_le_add->JB
open Option.some renaming inj->A0
open PySem.Paired renaming length->AB,snoc->JQ
open Ne renaming symm->AL
open PySem.F renaming plainAttrs_list->AM,slot_list_append->BC,type_list_append->BD,slot_zip_next->Cf,slot_list_extend->CG,type_list_extend->CH,plain_max_loop->CP,slot_dict_get->De,slot_tuple_iterator_next->Dj,plainAttrs_dict->Dx,args_zip_next_1->DO,entry_zip_next->Eb,args_tuple_add_2->En,slot_tuple_index->Ey,entry_tuple_add->EA,slot_dict_keyiterator_next->EI,slot_tuple_add->EL,entry_dict_get->EN,slot_list_pop->EW,type_list_pop->EX,args_tuple_iterator_next_1->Fx,entry_tuple_iterator_next->FC,plain_extend_loop->Ga,slot_dict_getitem->Gb,slot_dict_update->Gq,entry_max_loop->Gw,plainAttrs_tuple->Gx,type_tuple_index->Gy,plain_list_iadd->GQ,args_dict_get_3->GY,slot_dict_iter->Hq,plainAttrs_str->Hu,slot_str_index->Hv,type_str_index->Hw,plain_set_new->HG,slot_set_iter->HJ,type_dict_get->HK,slot_dict_pop->HM,kt_typeCall_dict_1->Ig,args_object_init_3->Ih,args_dict_init_2->IP,entry_dict_init->Jc,kt_called_dict->Jk,typeCall_zip_2->Jm,newCall_zip_2->Jy,entry_zip_new->Jz
open PySem.PassesOwn renaming never->AO
open PySem.Builtin.SmallTypes renaming ownedTupleIsFree->AS,nextOf->Be,ownedTupleHandOut->Ck
open List.Nodup renaming length_le_of_subset->AW
open Option renaming map_eq_some_iff->Bb,getD_some->Gj,bind_eq_some_iff->GZ,isSome_map->IZ,getD_none->Jh
open PySem.Str renaming ofString->Bf,length->FY,cps_append->HU,empty->JC
open PyProof.Rows renaming boot_list->Bh,boot_dict->BG,callWith_type1->BL,slot_tuple_getitem->BN,boot_int->Dh,sortedS->Ea,boot_sorted->Ew,boot_tuple->EE,boot_set->HP
open Array renaming length_toList->Bi,getElem?_toList->BU,eq_empty_of_size_eq_zero->Ff,getElem?_eq_getElem->Gc,find?_toList->Iz,forIn_toList->IS,toList_push->IV,toList->JJ
open Int renaming toNat_natCast->Bo,emod_lt_of_pos->Bz,emod_nonneg->B8,toNat->DC,ne_of_gt->Ex,zero_add->Ez,le_trans->Fk,fdiv_eq_ediv_of_nonneg->FG
open PySem.Around renaming under_plainId->Bw,under->ID
open PySem.Value renaming isStrOf->BW,isStrOf_shape->Il,isInt->JM
open PySem.Builtin.Range renaming rangeSize->Co,rangeFitsLong->FB,small->Im
open PySem.Calls renaming callWith_builtin->Cv,spliced_cons->CQ,evalArgs_plain->Dm,spliced_nil->DM,Name_function_global->FE
open False renaming elim->Cw
open PySem.PyData renaming canLayAll0->CJ,depthAll->Dg,canLay0->DU,depth->Fh
open PySem.Heap.SameBut renaming update->CK,refl->IU
open PySem.SetTable renaming grown->CN,below->Fq
open PyProof.Rows.F renaming plain_set_update_loop->CU,entry_set_update_loop->Er
open PySem.Obj renaming data_mapFields->CV,isFreed_of_fields->DS,mapSeq->E7,cls_mapFields->EJ,putSet->Fd,mapFields->FM
open PySem.Builtin.Slice renaming slicePlaces->Dl,sliceAdjust->Eh,sliceApplied->FI
open PySem.Builtin.Tuple renaming tupleExact->Du,tupleItemsOf->FJ
open PySem.Builtin.Dict renaming updateFrom->Dy,selfAndRest->Gp,pairItems->Hr,showsAll->HN
open Sum.inr renaming inj->DH
open List.Perm renaming refl->DR
open Sum.inl renaming inj->Ed
open PySem.SeqAt.EqAt renaming same->Ei,str_str->Eo,int_str->Ir,str_int->Iu,int_int->IJ
open PySem.Builtin.List renaming listTooLong->Ep,listExtendWith->FA,listSameRef->Gn
open PySem.Builtin renaming divisionGoesByPylong->Fv
open PySem.Manifest renaming find?->Fw
open PySem.Shared renaming TypeIs->FK,heap->Ht
open List.cons renaming inj->FP
open PySem.Builtin.Frozenset renaming sizeOf->Gm
open PyProof.Rows.Boot renaming max->HS
open PySem.SeqAt renaming EqAt->HZ,eqv_refl->J9
open PySem.Walks renaming list->Ic,range->JN
open PySem.Code renaming isFrame->IE,frames->JP
open PySem.Heap.IsSliceOf renaming new->IH
open PySem.pickOrder renaming go->IL
open PySem.SetTable.below renaming go->IX
open PySem.CmpOf renaming ints_gt->JH
open PySem.Txt renaming find->JL
open PySem.IsRange renaming new->JO
open Prod.mk renaming inj->JS
noncomputable section
namespace L2
open PySem PySem.Spec PyProof.Rows
abbrev Key:=Sum Int Str
def wk:Key->Value->Bool
 | .inl k,v=>JM k v
 | .inr x,v=>BW x v
def keyH(w:World):Key->Int
 | .inl k=>hashInt k
 | .inr x=>hashStr w x
theorem jr:∀{k:Key}{v:Value},wk k v=true->(∃i t,k=Sum.inl i/\v=Value.int i t)\/(∃x t,k=Sum.inr x/\v=Value.str x t)
 | .inl i,v,h=>by
  obtain⟨t,e⟩:=Value.isInt_shape (k:=i) (v:=v) h;exact .inl ⟨i,t,rfl,e⟩
 | .inr x,v,h=>by
  obtain⟨t,e⟩:=Il (x:=x) (v:=v) h;exact .inr ⟨x,t,rfl,e⟩
theorem a8p(i:Int)(t:Tok):wk (.inl i) (.int i t)=true:=by simp[wk,JM]
theorem a7t(x:Str)(t:Tok):wk (.inr x) (.str x t)=true:=by simp[wk,BW]
theorem af5(a b:Int):decide ((Sum.inl a:Key)=Sum.inl b)=(a == b):=by
 by_cases e:a=b
 . subst e;simp
 . have h:¬ (Sum.inl a:Key)=Sum.inl b:=fun q=>e (Ed q);rw[decide_eq_false h];exact (beq_eq_false_iff_ne.mpr e).symm
theorem aeu(a b:Str):decide ((Sum.inr a:Key)=Sum.inr b)=decide (a=b):=by
 by_cases e:a=b
 . subst e;simp
 . have h:¬ (Sum.inr a:Key)=Sum.inr b:=fun q=>e (DH q);rw[decide_eq_false h,decide_eq_false e]
theorem ads(a:Int)(b:Str):decide ((Sum.inl a:Key)=Sum.inr b)=false:=decide_eq_false (fun q=>nomatch q)
theorem ady(a:Str)(b:Int):decide ((Sum.inr a:Key)=Sum.inl b)=false:=decide_eq_false (fun q=>nomatch q)
def jh(prog:Program)(w:World):PySem.KeyKind prog w Key where
 is:=wk
 hash:=keyH w
 inj:=fun v a b ha hb=>by
  rcases jr ha with⟨i,t,rfl,rfl⟩|⟨x,t,rfl,rfl⟩
  . rcases jr hb with⟨j,u,rfl,e⟩|⟨y,u,rfl,e⟩
    . injection e with e1 _;rw[e1]
    . exact nomatch e
  . rcases jr hb with⟨j,u,rfl,e⟩|⟨y,u,rfl,e⟩
    . exact nomatch e
    . injection e with e1 _;rw[e1]
 byValue:=fun k v h=>by
  rcases jr h with⟨i,t,rfl,rfl⟩|⟨x,t,rfl,rfl⟩<;>rfl
 pyHash:=fun hv h=>by
  rcases jr hv with⟨i,t,rfl,rfl⟩|⟨x,t,rfl,rfl⟩
  . exact wpAny_pyHash_int h
  . exact wpAny_pyHash_str h
 eqBool:=fun hu hv h=>by
  rcases jr hu with⟨i,t,rfl,rfl⟩|⟨x,t,rfl,rfl⟩
  . rcases jr hv with⟨j,u,rfl,rfl⟩|⟨y,u,rfl,rfl⟩
    . rw[af5] at h;exact wpAny_eqBool_int h
    . rw[ads] at h;exact Ir i t y u _ _ _ _ h
  . rcases jr hv with⟨j,u,rfl,rfl⟩|⟨y,u,rfl,rfl⟩
    . rw[ady] at h;exact Iu x t j u _ _ _ _ h
    . rw[aeu] at h;exact wpAny_eqBool_str h
 «strs» := fun k x t v h=>by
  rcases jr h with⟨i,u,rfl,e⟩|⟨y,u,rfl,e⟩
  . exact nomatch e
  . injection e with e1 _;subst e1;cases v<;>rfl
theorem a33(prog:Program)(w:World)(i:Int)(t:Tok):(jh prog w).is (.inl i) (.int i t)=true:=a8p i t
theorem a32(prog:Program)(w:World)(x:Str)(t:Tok):(jh prog w).is (.inr x) (.str x t)=true:=a7t x t
inductive V where
 | non|bl (b:Bool)|int (i:Int)|str (x:Str)|byt (b:Array UInt8)|flt (b:UInt64)|ref (a:Addr)|ty (n:String)
 deriving DecidableEq
def RelV:V->Value->Prop
 | .non,u=>u=Value.none
 | .bl b,u=>u=Value.bool b
 | .int i,u=>∃t,u=Value.int i t
 | .str x,u=>∃t,u=Value.str x t
 | .byt b,u=>∃t,u=Value.bytes b t
 | .flt b,u=>∃t,u=Value.float b t
 | .ref a,u=>u=Value.ref a
 | .ty n,u=>u=Value.type n
abbrev Vals:List V->List Value->Prop:=Paired RelV
theorem Vals.length(r:Vals xs us):xs.length=us.length:=AB r
theorem Vals.get:∀{xs:List V}{us:List Value}{i:Nat}{x:V},Vals xs us->xs[i]? = some x->∃u,us[i]? = some u/\RelV x u
 | _,_,_,_,.nil,e=>by simp at e
 | _,_,0,_,.cons r _,e=>by simp at e;subst e;exact⟨_,rfl,r⟩
 | _,_,i+1,x,.cons _ t,e=>by
  obtain⟨u,b,a⟩:=Vals.get (i:=i) (x:=x) t (by simpa using e);exact⟨u,by simpa using b,a⟩
theorem Vals.set(r:RelV x u):∀{xs:List V}{us:List Value}(i:Nat),Vals xs us->Vals (xs.set i x) (us.set i u)
 | _,_,_,.nil=>.nil
 | _,_,0,.cons _ t=>.cons r t
 | _,_,i+1,.cons q t=>.cons q (Vals.set r i t)
theorem Vals.append:∀{xs ys:List V}{us ws:List Value},Vals xs us->Vals ys ws->Vals (xs++ys) (us++ws)
 | _,_,_,_,.nil,s=>s
 | _,_,_,_,.cons r t,s=>.cons r (Vals.append t s)
theorem Vals.take:∀{xs:List V}{us:List Value}(n:Nat),Vals xs us->Vals (xs.take n) (us.take n)
 | _,_,0,_=>.nil
 | _,_,_+1,.nil=>.nil
 | _,_,n+1,.cons r t=>.cons r (Vals.take n t)
theorem Vals.drop:∀{xs:List V}{us:List Value}(n:Nat),Vals xs us->Vals (xs.drop n) (us.drop n)
 | _,_,0,r=>r
 | _,_,_+1,.nil=>.nil
 | _,_,n+1,.cons _ t=>Vals.drop n t
def RelO:Option V->Option Value->Prop
 | some v,some u=>RelV v u
 | none,none=>True
 | _,_=>False
def KV{κ:Type}:List (κ×V)->List (κ×Value)->Prop:=Paired fun (p:κ×V) (q:κ×Value)=>p.1=q.1/\RelV p.2 q.2
def kV:Key->V
 | .inl i=>.int i
 | .inr x=>.str x
inductive HO where
 /-- a list -/
 | lst (xs:List V)
 /-- a tuple (never changes) -/
 | tup (xs:List V)
 /-- a dict whose keys are ints and texts;one whose keys are tuples of ints and texts (the empty one is both) -/
 | dK (kvs:List (Key×V))|dT (kvs:List (List Key×V))
 /-- a set of ints: its members,its size -/
 | set (S:Int->Bool)(n:Nat)
 /-- an instance of the class at C,its dict at dx,its attributes -/
 | ins (C dx:Addr)(fs:List (Str×V))
 /-- the dict of the instance at x -/
 | own (x:Addr)
 /-- the dict of an exception -/
 | xd (fs:List (Str×V))
 /-- a bound method,f of x -/
 | met (f x:Addr)
 /-- a range object lo,lo+1,.. below hi -/
 | rng (lo hi:Int)
 /-- a thing that is known to the object (the script;a dict while a loop walks it): read,never written while it is so -/
 | frz (o:Obj)(u:HO)
 /-- a code object's table -/
 | tbl (ps:Array Value)
 /-- any other thing,by what is true of its one object (a def of one's own: SetO a S n:=HO.ext fun h=>..) -/
 | ext (φ:Heap->Prop)
abbrev Hp:=Addr->Option HO
def upd(H:Hp)(a:Addr)(o:HO):Hp:=fun b=>if b=a then some o else H b
theorem ft:upd H a o a=some o:=by unfold upd;rw[if_pos rfl]
theorem fq(h:b≠a):upd H a o b=H b:=by unfold upd;rw[if_neg h]
theorem afm{H:Hp}(h:H a=some o)(h':H b=some u)(d:o≠u):a≠b:=by
 intro e;subst e;rw[h] at h';exact d (A0 h')
theorem g6{H:Hp}(h:H a=some o)(h':H b=none):a≠b:=by
 intro e;subst e;rw[h] at h';cases h'
section
variable(P:Program)(w:World) in
def ObjOk(H:Hp)(h:Heap)(a:Addr):HO->Prop
 | .lst xs=>xs.length<=sizeLine/\∃(its:List Value) (n:Nat),Vals xs its/\h.get? a=some { cls:=.type "list",data:=.seq its.toArray n }
 | .tup xs=>xs.length<=sizeLine/\∃its:List Value,Vals xs its/\IsTup h a its.toArray
 | .dK kvs=>kvs.length<=sizeLine/\(a == sysModules)=false/\∃vs,KV kvs vs/\h.DictOf (jh P w) a vs
 | .dT kvs=>kvs.length<=sizeLine/\(a == sysModules)=false/\∃xs:List (List Key×Addr×Value),
  Paired (fun (p:List Key×V) (q:List Key×Addr×Value)=>p.1=q.1/\H q.2.1=some (.tup (p.1.map kV))/\RelV p.2 q.2.2) kvs xs/\
  ∃o es ep,h.get? a=some o/\o.ExactDict/\o.data=.dict es ep/\es.toList=xs.map (entryOfKey (tupleKind (jh P w)))/\(xs.map (·.1)).Nodup
 | .set S n=>h.SetOf (intKind P w) a S n
 | .ins C dx fs=>H dx=some (.own a)/\fs.length<=1000/\dx≠a/\h.get? a=some (CC C dx)/\
  ∃mA,h.Ns1 dx mA/\(∀f,RelO (fs.lookup f) (mA f))/\Iv mA (fs.map (·.1))
 | .own _=>∃o,h.get? a=some o
 | .xd fs=>∃mA,h.Ns1 a mA/\∀f,RelO (fs.lookup f) (mA f)
 | .rng lo hi=>∃t u v,h.get? a=some { cls:=.type "range",data:=.fields #[.int lo t,.int hi u,.int 1 v] }
 | .frz o u=>h.get? a=some o/\ObjOk H h a u
 | .tbl ps=>h.get? a=some { cls:=.none,data:=.fields ps }
 | .met f x=>h.get? a=some (FQ (.ref f) (.ref x))
 | .ext φ=>φ h/\(∃o,h.get? a=some o)/\∀h1 h2:Heap,φ h1->(∀o,h1.get? a=some o->h2.get? a=some o)->φ h2
def HOk(P:Program)(w:World)(H:Hp)(h:Heap):Prop:=∀a o,H a=some o->ObjOk P w H h a o
end
section
theorem ObjOk.lt(x:ObjOk P w H h a o):a<h.objs.size:=by
 cases o with
 | lst xs=>obtain⟨_,_,_,_,e⟩:=x;exact As e
 | tup xs=>obtain⟨_,_,_,p⟩:=x;exact p.lt
 | dK kvs=>obtain⟨_,_,_,_,o,_,_,e,_⟩:=x;exact As e
 | dT kvs=>obtain⟨_,_,_,_,o,_,_,e,_⟩:=x;exact As e
 | set S n=>obtain⟨o,_,_,_,e,_⟩:=x;exact As e
 | ins C dx fs=>obtain⟨_,_,_,e,_⟩:=x;exact As e
 | own y=>obtain⟨_,e⟩:=x;exact As e
 | xd fs=>obtain⟨_,⟨_,_,_,e,_⟩,_⟩:=x;exact As e
 | rng lo hi=>obtain⟨_,_,_,e⟩:=x;exact As e
 | frz ob u=>obtain⟨e,_⟩:=x;exact As e
 | tbl ps=>exact As (show h.get? a=some _ from x)
 | met f y=>exact As (show h.get? a=some _ from x)
 | ext φ=>obtain⟨_,⟨_,e⟩,_⟩:=x;exact As e
variable{a:Addr} in
theorem Paired.mapP{α β:Type}{F G:α->β->Prop}:∀{l₁:List α}{l₂:List β},Paired F l₁ l₂->(∀a b,F a b->G a b)->Paired G l₁ l₂
 | _,_,.nil,_=>.nil
 | _,_,.cons r t,f=>.cons (f _ _ r) (Paired.mapP t f)
theorem ObjOk.stay(x:ObjOk P w H h a o)(k:∀b u,(b=a\/H b=some (.own a))->h.get? b=some u->h'.get? b=some u)(i:∀b,H b=some (.own a)->H' b=some (.own a))(ht:∀b xs,H b=some (.tup xs)->H' b=some (.tup xs)):ObjOk P w H' h' a o:=by
 induction o with
 | lst xs=>obtain⟨z,its,n,r,e⟩:=x;exact⟨z,its,n,r,k _ _ (.inl rfl) e⟩
 | tup xs=>obtain⟨z,its,r,ob,e,c⟩:=x;exact⟨z,its,r,ob,k _ _ (.inl rfl) e,c⟩
 | dK kvs=>obtain⟨z,y,vs,r,ob,es,ep,e,c⟩:=x;exact⟨z,y,vs,r,ob,es,ep,k _ _ (.inl rfl) e,c⟩
 | dT kvs =>
  obtain⟨z,y,xs,r,ob,es,ep,e,c⟩:=x;exact⟨z,y,xs,Paired.mapP r fun p q z=>⟨z.1,ht _ _ z.2.1,z.2.2⟩,ob,es,ep,k _ _ (.inl rfl) e,c⟩
 | set S n=>obtain⟨ob,es,ep,t,e,c⟩:=x;exact⟨ob,es,ep,t,k _ _ (.inl rfl) e,c⟩
 | ins C dx fs =>
  obtain⟨d,z,ne,e,g,⟨od,es,ep,j,c⟩,r⟩:=x;exact⟨i _ d,z,ne,k _ _ (.inl rfl) e,g,⟨od,es,ep,k _ _ (.inr d) j,c⟩,r⟩
 | own y=>obtain⟨ob,e⟩:=x;exact⟨ob,k _ _ (.inl rfl) e⟩
 | xd fs=>obtain⟨g,⟨od,es,ep,e,c⟩,r⟩:=x;exact⟨g,⟨od,es,ep,k _ _ (.inl rfl) e,c⟩,r⟩
 | rng lo hi=>obtain⟨t,u,v,e⟩:=x;exact⟨t,u,v,k _ _ (.inl rfl) e⟩
 | frz ob u ih=>obtain⟨e,q⟩:=x;exact⟨k _ _ (.inl rfl) e,ih q⟩
 | tbl ps =>
  have e:h.get? a=some { cls:=.none,data:=.fields ps }:=x;show h'.get? a=some { cls:=.none,data:=.fields ps };exact k a _ (.inl rfl) e
 | met f y =>
  have e:h.get? a=some (FQ (.ref f) (.ref y)):=x;show h'.get? a=some (FQ (.ref f) (.ref y));exact k a _ (.inl rfl) e
 | ext φ=>obtain⟨p,⟨o,e⟩,st⟩:=x;exact⟨st _ _ p fun o q=>k _ _ (.inl rfl) q,⟨o,k _ _ (.inl rfl) e⟩,st⟩
theorem HOk.lt(x:HOk P w H h)(e:H a=some o):a<h.objs.size:=(x a o e).lt
theorem HOk.fresh(x:HOk P w H h)(e:h.objs.size<=a):H a=none:=by
 cases q:H a with
 | none=>rfl
 | some u=>exact absurd (AK (x.lt q) e) (Bx _)
theorem HOk.kept(x:HOk P w H h)(k:∀b u,h.get? b=some u->h'.get? b=some u):HOk P w H h':=fun a o e =>
 (x a o e).stay (fun b u _ q=>k b u q) (fun _ q=>q) fun _ _ q=>q
theorem HOk.laid(x:HOk P w H h)(k:∀b u,h.get? b=some u->h'.get? b=some u)(hp:h.objs.size<=a)(new:ObjOk P w (upd H a o) h' a o):HOk P w (upd H a o) h':=fun b u e=>by
 have hn:=x.fresh hp;by_cases hb:b=a
 . subst hb;rw[ft] at e;cases e;exact new
 . rw[fq hb] at e;exact (x b u e).stay (fun c v _ q=>k c v q) (fun c q=>by rw[fq (g6 q hn)];exact q) fun c xs q=>by rw[fq (g6 q hn)];exact q
end
def Rd(H:Hp)(a:Addr)(u:HO):Prop:=H a=some u\/∃o,H a=some (.frz o u)
theorem Rd.ok(r:Rd H a u)(x:HOk P w H h):ObjOk P w H h a u:=by
 rcases r with r|⟨o,r⟩
 . exact x a u r
 . obtain⟨_,q⟩:=x a _ r;exact q
def Mut:Option HO->Prop
 | some (.lst _)=>True
 | some (.dK _)=>True
 | some (.dT _)=>True
 | some (.set _ _)=>True
 | some (.ins _ _ _)=>True
 | some (.ext _)=>True
 | _=>False
theorem HOk.write(ok:HOk P w H h)(g:Mut (H x))(m:e=x\/H e=some (.own x))(k:∀b u,b≠e->h.get? b=some u->h'.get? b=some u)(i:∃u,h'.get? e=some u)(new:ObjOk P w (upd H x j) h' x j):HOk P w (upd H x j) h':=fun b u q=>by
 have d:∀c y,H c=some (.own y)->c≠x:=fun c y r z=>by subst z;rw[r] at g;exact g
 have f:∀c xs,H c=some (.tup xs)->c≠x:=fun c xs r z=>by subst z;rw[r] at g;exact g
 by_cases hb:b=x
 . subst hb;rw[ft] at q;cases q;exact new
 . rw[fq hb] at q;by_cases a:b=e
   . have l:H b=some (.own x):=by
      rcases m with z|z
      . exact absurd (a.trans z) hb
      . rw[a];exact z
     rw[q] at l;cases l;obtain⟨v,n⟩:=i;exact⟨v,by rw[a];exact n⟩
   . refine (ok b u q).stay (fun c v hc r=>k c v ?_ r) (fun c r=>by rw[fq (d c b r)];exact r) fun c xs r=>by rw[fq (f c xs r)];exact r
     rcases hc with rfl|hc
     . exact a
     . rintro rfl;rcases m with z|z
       . exact d c b hc z
       . rw[hc] at z;cases z;exact hb rfl
structure Un(fs ex:List Addr)(H H':Hp)(h h':Heap):Prop where
 keep:∀b o,h.get? b=some o->H b=none->b∉fs->b∉ex->h'.get? b=some o
 slot:∀b o,h.get? b=some o->H b=none->b∈fs->b∉ex->∃sl,h'.get? b=some { o with slots:=sl }
 free:∀b o,h.get? b=some o->H b=none->b∉ex->H' b=none
 there:∀b o,h.get? b=some o->b∉ex->∃o',h'.get? b=some o'
 tups:∀b xs,H b=some (.tup xs)->H' b=some (.tup xs)
 frzs:∀b o u,H b=some (.frz o u)->H' b=some (.frz o u)
 tbls:∀b ps,H b=some (.tbl ps)->∃more,H' b=some (.tbl (ps++more))
theorem Un.any(u:Un fs ex H e h c)(q:h.get? b=some ob)(n:H b=none)(a:b∉ex):∃d,c.get? b=some { ob with slots:=d }:=by
 by_cases hb:b∈fs
 . exact u.slot b ob q n hb a
 . exact⟨ob.slots,u.keep b ob q n hb a⟩
theorem Un.kept(k:∀b u,h.get? b=some u->h'.get? b=some u):Un fs ex H H h h' :=
 ⟨fun b ob q _ _ _=>k b ob q,fun b ob q _ _ _=>⟨ob.slots,k b ob q⟩,fun _ _ _ n _=>n,fun b ob q _=>⟨ob,k b ob q⟩,fun _ _ q=>q,fun _ _ _ q=>q,fun _ ps q=>⟨#[],by rw[q];simp⟩⟩
theorem Un.refl:Un fs ex H H h h:=Un.kept fun _ _ q=>q
theorem Un.laid(k:∀b u,h.get? b=some u->h'.get? b=some u)(hp:h.objs.size<=a)(hn:H a=none):Un fs ex H (upd H a o) h h' where
 keep:=fun b u q _ _ _=>k b u q
 slot:=fun b u q _ _ _=>⟨u.slots,k b u q⟩
 free:=fun b u q n _=>by rw[fq (AA (AK (As q) hp))];exact n
 there:=fun b u q _=>⟨u,k b u q⟩
 tups:=fun b xs q=>by rw[fq (g6 q hn)];exact q
 frzs:=fun b u xs q=>by rw[fq (g6 q hn)];exact q
 tbls:=fun b ps q=>⟨#[],by rw[fq (g6 q hn),q];simp⟩
theorem Un.write(c:Mut (H x))(g:e=x\/H e=some (.own x))(k:∀b u,b≠e->h.get? b=some u->h'.get? b=some u)(d:∃u,h'.get? e=some u):Un fs ex H (upd H x o) h h':=by
 have f:∀b,H b=none->b≠x:=fun b n z=>by subst z;rw[n] at c;exact c
 have hb:∀b,H b=none->b≠e:=fun b n z=>by
  subst z;rcases g with r|r
  . exact f b n r
  . rw[n] at r;cases r
 have hm:∀b u,H b=some u->¬ Mut (some u)->b≠x:=fun b u q nm z=>by subst z;rw[q] at c;exact nm c
 refine⟨fun b u q n _ _=>k b u (hb b n) q,fun b u q n _ _=>⟨u.slots,k b u (hb b n) q⟩,fun b u q n _=>by rw[fq (f b n)];exact n,fun b u q _=>?_,
  fun b xs q=>by rw[fq (hm b _ q fun z=>z)];exact q,fun b u xs q=>by rw[fq (hm b _ q fun z=>z)];exact q,fun b ps q=>⟨#[],by rw[fq (hm b _ q fun z=>z),q];simp⟩⟩
 by_cases a:b=e
 . subst a;exact d
 . exact⟨u,k b u a q⟩
def trk(h:Heap)(H:Hp):List Addr:=(Ce h.objs.size).filter fun a=>(H a).isSome
def hidT(h:Heap)(H:Hp):Heap:=PySem.W.hideAll h (trk h H)
theorem a6w(h:Heap)(H:Hp):(hidT h H).objs.size=h.objs.size:=PySem.W.hideAll_size _ _
theorem aah(e:h.get? b=some o)(n:H b=none):(hidT h H).get? b=some o :=
 PySem.W.hideAll_get _ e fun hm=>by
  have q:(H b).isSome=true:=(CY.mp hm).2;rw[n] at q;simp at q
theorem adf(e:(hidT h H).get? b=some o):h.get? b=some o/\H b=none:=by
 have a:h.get? b=some o:=PySem.W.of_hideAll (trk h H) e;refine⟨a,?_⟩;cases q:H b with
 | none=>rfl
 | some x =>
  have hm:b∈trk h H:=List.mem_filter.mpr ⟨List.mem_range.mpr (As a),by simp[q]⟩;have z:(hidT h H).get? b=none:=PySem.W.hideAll_none (trk h H) hm;rw[z] at e;cases e
def acz(g h:Heap)(L:Addr):List (Addr×Obj):=(Ce h.objs.size).filterMap fun a=>if a=L\/(g.get? a).isSome=true then none else (h.get? a).map fun o=>(a,o)
def rest(g h:Heap)(L d:Addr):List (Addr×Obj):=(acz g h L).filter fun p=>decide (p.1≠d)
structure Mod(K:Ac)(mg:Str->Option Value)(base:Heap):Prop where
 kin:K.In base
 glob:base.Ns mainGlobals mg
 blt:∃mb,base.Ns builtinsNs mb/\∀x:Str,x ≠ "__name__" -> mb x=bootBuiltins x
 nolimit:base.NoLimit
structure Cx where
 prog:Program
 w:World
 K:Ac
 mg:Str->Option Value
 base:Heap
 A:Around
 N:List Str
 s₀:Shared
 H₀:Hp
 env:Env
 outer:List Env
 stack:List Env
 ex:List Addr
 fn:Str->Bool
 calm:Bool
 pn:List (Addr×Obj)
 xe:Value->Shared->Prop
def frs(l:List Env):List Addr:=l.filterMap (·.frame)
abbrev Cx.fs(X:Cx):List Addr:=frs X.outer
def Vis(sc:Scope)(x:Str):Prop:=sc.names.lookup x=some .local\/sc.names.lookup x=some .cell\/sc.names.lookup x=some .free
def Loc(sc:Scope)(x:Str):Prop:=sc.names.lookup x=some .local\/sc.names.lookup x=some .cell
def Look(env:Env)(h:Heap)(m:Str->Option Value)(x:Str)(u:Value):Prop :=
 (env.kindOf x=some .local/\m x=some u)\/((env.kindOf x=some .cell\/env.kindOf x=some .free)/\∃c,env.cells.lookup x=some c/\h.IsCell c (some u))
structure Cx.Ok(X:Cx):Prop where
 mod:Mod X.K X.mg X.base
 kind:X.env.scope.kind=.function
 glob:X.env.globals=mainGlobals
 blt:X.env.builtins=builtinsNs
 above:X.s₀.heap.objs.size<=X.env.locals
 inj:∀x y c,X.env.cells.lookup x=some c->X.env.cells.lookup y=some c->x=y
 has:∀x,(X.env.kindOf x=some .cell\/X.env.kindOf x=some .free)->∃c,X.env.cells.lookup x=some c
 cab:∀x c,X.fn x=true->X.env.cells.lookup x=some c->X.s₀.heap.objs.size<=c
 hd:X.calm=true->X.A.handled=none
 frames:X.A.frames=some X.stack
 stk:X.stack=X.outer\/(X.stack=X.env::X.outer/\X.env.frame=some X.env.locals)
 exf:∀b∈X.ex,b≠X.env.locals/\∀x c,X.env.cells.lookup x=some c->c≠b
 bs:∀b o,X.base.get? b=some o->X.s₀.heap.get? b=some o/\X.H₀ b=none
 bsz:X.base.objs.size<=X.s₀.heap.objs.size
 noex:∀b o,X.base.get? b=some o->b∉X.ex
 exfs:∀b∈X.ex,b∉X.fs
 funs:X.s₀.heap.FunFrames X.base X.outer
 frf:∀b∈X.fs,X.H₀ b=none
structure Inv(X:Cx)(pins:List (Addr×Obj))(σ:List (Option V))(H:Hp)(s:Shared):Prop where
 ok:X.Ok
 os:s.os=X.s₀.os
 bare:AllBare s.gens
 base:Un X.fs X.ex X.H₀ H X.s₀.heap s.heap
 loc:∃m,s.heap.Ns X.env.locals m/\∀(i:Nat) (x:Str) (v:V),X.N[i]? = some x->σ[i]? = some (some v)->Vis X.env.scope x->∃u,RelV v u/\Look X.env s.heap m x u
 cell:∀x c,X.env.cells.lookup x=some c->∃v,s.heap.IsCell c v
 free:H X.env.locals=none
 freeC:∀x c,X.env.cells.lookup x=some c->H c=none
 pin:∀p∈X.pn++pins,s.heap.get? p.1=some p.2/\H p.1=none/\p.1≠X.env.locals/\p.1∉X.fs/\∀v,p.2.data≠.cell v
 hok:HOk X.prog X.w H s.heap
 len:σ.length=X.N.length
theorem Cx.Ok.nofr{X:Cx}(ok:X.Ok)(e:X.base.get? b=some o):b∉X.fs:=fun hb=>by
 have:=(ok.funs.mem hb).1;rw[e] at this;cases this
theorem Inv.bs(I:Inv X a σ H s):∀b o,X.base.get? b=some o->s.heap.get? b=some o/\H b=none:=fun b o e =>
 ⟨I.base.keep b o (I.ok.bs b o e).1 (I.ok.bs b o e).2 (I.ok.nofr e) (I.ok.noex b o e),I.base.free b o (I.ok.bs b o e).1 (I.ok.bs b o e).2 (I.ok.noex b o e)⟩
theorem Inv.bk(I:Inv X a σ H s):∀b o,X.base.get? b=some o->s.heap.get? b=some o:=fun b o e=>(I.bs b o e).1
theorem Inv.mod(I:Inv X a σ H s):Mod X.K X.mg X.base:=I.ok.mod
theorem Inv.kIn(I:Inv X a σ H s):X.K.In s.heap:=I.ok.mod.kin.keeps I.bk
theorem Inv.lt(I:Inv X a σ H s):X.env.locals<s.heap.objs.size:=let ⟨_,hn,_⟩:=I.loc;hn.lt
theorem Inv.sz(I:Inv X a σ H s):X.s₀.heap.objs.size<=s.heap.objs.size:=Ax I.ok.above (BK I.lt)
theorem Inv.nofs(I:Inv X b σ H s)(h:s.heap.objs.size<=a):a∉X.fs:=fun hb=>by
 obtain⟨_,o,c,_⟩:=I.ok.funs.mem hb;exact absurd (AK (As c) (Ax I.sz h)) (Bx _)
theorem Inv.cne(I:Inv X d σ H s):∀x c,X.env.cells.lookup x=some c->c≠X.env.locals:=fun x c e z=>by
 obtain⟨v,o,f,hd⟩:=I.cell x c e;obtain⟨m,⟨g,es,ep,a,b,_⟩,_⟩:=I.loc;rw[z,a] at f;cases f;rw[b] at hd;cases hd
theorem Inv.funs(I:Inv X d σ H s):s.heap.FunFrames X.base X.outer:=by
 have all:∀(l:List Env),(∀b∈frs l,b∈X.fs)->X.s₀.heap.FunFrames X.base l->s.heap.FunFrames X.base l:=by
  intro l;induction l with
  | nil=>intro _ _;trivial
  | cons env r ih =>
   intro hs hl;obtain⟨h,⟨L,o,c,hn,g,hd⟩,f⟩:=hl;have a:L∈X.fs:=hs L (by unfold frs;rw[Dw,c];exact Af);obtain⟨i,e⟩:=I.base.slot L o g (I.ok.frf L a) a fun z=>I.ok.exfs L z a;exact⟨h,⟨L,_,c,hn,e,hd⟩,ih (fun b hb=>hs b (by unfold frs;rw[Dw,c];exact Al _ hb)) f⟩
 exact all X.outer (fun _ hb=>hb) I.ok.funs
theorem Inv.stack(I:Inv X a σ H s):s.heap.FunFrames X.base X.stack:=by
 rcases I.ok.stk with e|⟨e,b⟩
 . rw[e];exact I.funs
 . rw[e];obtain⟨m,hn,_⟩:=I.loc;refine .cons (by rw[I.ok.kind];decide) b hn ?_ I.funs;exact EY (Ax I.ok.bsz I.ok.above)
theorem Inv.stkSub(I:Inv X a σ H s):∀b∈frs X.stack,b∈X.env.locals::X.fs:=fun b hb=>by
 rcases I.ok.stk with e|⟨e,c⟩
 . rw[e] at hb;exact Al _ hb
 . rw[e] at hb;unfold frs at hb;rw[Dw,c] at hb;exact hb
theorem Inv.stkFree(I:Inv X a σ H s):∀b∈frs X.stack,H b=none:=fun b hb=>by
 rcases Ah.mp (I.stkSub b hb) with e|hb
 . rw[e];exact I.free
 . obtain⟨_,o,c,_⟩:=I.ok.funs.mem hb;exact I.base.free b o c (I.ok.frf b hb) fun z=>I.ok.exfs b z hb
theorem Inv.step{ch:List Addr}(I:Inv X y σ H s)(f:∀b∈ch,(b∈X.ex\/X.s₀.heap.objs.size<=b)/\b≠X.env.locals/\(∀x c,X.env.cells.lookup x=some c->c≠b)/\∀p∈X.pn++y,p.1≠b)(keep:∀b o,b≠X.env.locals->b∉X.fs->b∉ch->s.heap.get? b=some o->H b=none->h'.get? b=some o)(slot:∀b o,b≠X.env.locals->b∈X.fs->b∉ch->s.heap.get? b=some o->H b=none->∃J,h'.get? b=some { o with slots:=J })(free:∀b o,b∉ch->s.heap.get? b=some o->H b=none->H' b=none)(there:∀b o,b∉ch->s.heap.get? b=some o->∃D,h'.get? b=some D)(tups:∀b xs,H b=some (.tup xs)->H' b=some (.tup xs))(frzs:∀b o u,H b=some (.frz o u)->H' b=some (.frz o u))(tbls:∀b ps,H b=some (.tbl ps)->∃C,H' b=some (.tbl (ps++C)))(ns:∀m,s.heap.Ns X.env.locals m->h'.Ns X.env.locals m)(hok:HOk X.prog X.w H' h')(L:AllBare g'):
 Inv X y σ H' { s with heap:=h',gens:=g',drawn:=d',toks:=t' }:=by
 have E:∀b o,X.s₀.heap.get? b=some o->b≠X.env.locals:=fun b o e=>AA (AK (As e) I.ok.above);have j:∀b o,X.s₀.heap.get? b=some o->b∉X.ex->b∉ch:=fun b o e a hb=>by
  rcases (f b hb).1 with z|z
  . exact a z
  . exact absurd (AK (As e) z) (Bx _)
 have g:∀x c,X.env.cells.lookup x=some c->∀v,s.heap.IsCell c v->h'.IsCell c v:=fun x c e v ⟨o,A,hd⟩=>by
  have h:c∉ch:=fun z=>(f c z).2.2.1 x c e rfl;by_cases hc:c∈X.fs
  . obtain⟨J,q⟩:=slot c o (I.cne x c e) hc h A (I.freeC x c e);exact⟨_,q,hd⟩
  . exact⟨o,keep c o (I.cne x c e) hc h A (I.freeC x c e),hd⟩
 refine⟨I.ok,I.os,L,⟨fun b o e n hb a=>?_,fun b o e n hb a=>?_,fun b o e n a=>?_,fun b o e a=>?_,fun b xs e=>tups b xs (I.base.tups b xs e),fun b o xs e=>frzs b o xs (I.base.frzs b o xs e),fun b ps e=>?_⟩,?_,fun x c e=>?_,?_,fun x c e=>?_,fun p hp=>?_,hok,I.len⟩
 . exact keep b o (E b o e) hb (j b o e a) (I.base.keep b o e n hb a) (I.base.free b o e n a)
 . obtain⟨J,t⟩:=I.base.slot b o e n hb a;obtain⟨G,F⟩:=slot b _ (E b o e) hb (j b o e a) t (I.base.free b o e n a);exact⟨G,F⟩
 . obtain⟨D,t⟩:=I.base.there b o e a;exact free b D (j b o e a) t (I.base.free b o e n a)
 . obtain⟨D,t⟩:=I.base.there b o e a;exact there b D (j b o e a) t
 . obtain⟨m1,t⟩:=I.base.tbls b ps e;obtain⟨m2,F⟩:=tbls b _ t;exact⟨m1++m2,by rw[F,Array.append_assoc]⟩
 . obtain⟨m,hn,hl⟩:=I.loc;refine⟨m,ns m hn,fun i x v t F M=>?_⟩;obtain⟨u,r,l⟩:=hl i x v t F M;refine⟨u,r,?_⟩;rcases l with l|⟨k,c,e,z⟩
   . exact .inl l
   . exact .inr ⟨k,c,e,g x c e _ z⟩
 . obtain⟨v,z⟩:=I.cell x c e;exact⟨v,g x c e v z⟩
 . obtain⟨m,⟨o,_,_,A,_⟩,_⟩:=I.loc;exact free _ o (fun z=>(f _ z).2.1 rfl) A I.free
 . obtain⟨v,o,A,hd⟩:=I.cell x c e;exact free c o (fun z=>(f c z).2.2.1 x c e rfl) A (I.freeC x c e)
 . obtain⟨e,n,ne,nf,d⟩:=I.pin p hp;have h:p.1∉ch:=fun z=>(f p.1 z).2.2.2 p hp rfl;exact⟨keep p.1 p.2 ne nf h e n,free p.1 p.2 h e n,ne,nf,d⟩
theorem Inv.un(I:Inv X a σ H s)(u:Un X.fs [] H H' s.heap h')(hok:HOk X.prog X.w H' h'):Inv X a σ H' { s with heap:=h',toks:=t' }:=by
 obtain⟨m,⟨o,es,ep,g,r⟩,_⟩:=id I.loc;obtain⟨l,h⟩:=u.any g I.free (by simp);exact I.step (g':=s.gens) (d':=s.drawn) (ch:=[]) (fun _ z=>nomatch z) (fun b o _ hb _ e n=>u.keep b o e n hb (by simp)) (fun b o _ hb _ e n=>u.slot b o e n hb (by simp)) (fun b o _ e n=>u.free b o e n (by simp)) (fun b o _ e=>u.there b o e (by simp)) u.tups u.frzs u.tbls (fun k hm=>by
  obtain⟨j,f,d,c,i⟩:=hm;rw[g] at c;cases c;exact⟨_,f,d,h,i⟩) hok I.bare
theorem Inv.call(I:Inv X a σ H s)(u:Un (frs X.stack) ch H H' s.heap h')(hok:HOk X.prog X.w H' h')(k:AllBare g')(d:∀b∈ch,(b∈X.ex\/X.s₀.heap.objs.size<=b)/\b≠X.env.locals/\(∀x c,X.env.cells.lookup x=some c->c≠b)/\∀p∈X.pn++a,p.1≠b):
 Inv X a σ H' { s with heap:=h',gens:=g',drawn:=d',toks:=t' }:=by
 obtain⟨m,⟨o,es,ep,j,r⟩,_⟩:=id I.loc;obtain⟨t,h⟩:=u.any j I.free fun z=>(d _ z).2.1 rfl;exact I.step (ch:=ch) d (fun b o h hb hc e n=>u.keep b o e n (fun z=>(Ah.mp (I.stkSub b z)).elim h hb) hc) (fun b o _ _ hc e n=>u.any e n hc) (fun b o hc e n=>u.free b o e n hc) (fun b o hc e=>u.there b o e hc) u.tups u.frzs u.tbls (fun q hm=>by
  obtain⟨v,i,g,f,l⟩:=hm;rw[j] at f;cases f;exact⟨_,i,g,h,l⟩) hok k
theorem Inv.turned(I:Inv X a σ H s)(k:∀b o,b≠it->s.heap.get? b=some o->h'.get? b=some o)(hn:H it=none)(f:it≠X.env.locals)(h:it∈X.ex\/X.s₀.heap.objs.size<=it)(j:∀x c,X.env.cells.lookup x=some c->c≠it)(g:∀p∈X.pn++a,p.1≠it):Inv X a σ H { s with heap:=h',toks:=t' }:=by
 have d:∀b u,H b=some u->b≠it:=fun b u e z=>by rw[z,hn] at e;cases e
 refine I.step (g':=s.gens) (d':=s.drawn) (ch:=[it]) (fun b hb=>?_) (fun b o _ _ hc e _=>k b o (fun z=>hc (by simp[z])) e) (fun b o _ _ hc e _=>⟨o.slots,k b o (fun z=>hc (by simp[z])) e⟩) (fun _ _ _ _ n=>n)
  (fun b o hc e=>⟨o,k b o (fun z=>hc (by simp[z])) e⟩) (fun _ _ e=>e) (fun _ _ _ e=>e) (fun b ps e=>⟨#[],by rw[e];simp⟩) (fun m hm=>?_) (fun b u e=>?_) I.bare
 . have e:b=it:=by simpa using hb
   subst e;exact⟨h,f,j,g⟩
 . obtain⟨o,es,ep,i,r⟩:=hm;exact⟨o,es,ep,k _ o (AL f) i,r⟩
 . refine (I.hok b u e).stay (fun c v hc q=>k c v ?_ q) (fun _ q=>q) fun _ _ q=>q;rcases hc with z|z
   . rw[z];exact d b u e
   . exact d c _ z
theorem Inv.tok(I:Inv X a σ H s)(t:Nat):Inv X a σ H { s with toks:=t }:=I.un (h':=s.heap) (t':=t) Un.refl I.hok
theorem Inv.kept(I:Inv X a σ H s)(k:∀b u,s.heap.get? b=some u->h'.get? b=some u):Inv X a σ H { s with heap:=h',toks:=t' }:=I.un (Un.kept k) (I.hok.kept k)
theorem Inv.laid(I:Inv X c σ H s)(k:∀b u,s.heap.get? b=some u->h'.get? b=some u)(hp:s.heap.objs.size<=a)(new:ObjOk X.prog X.w (upd H a o) h' a o):
 Inv X c σ (upd H a o) { s with heap:=h',toks:=t' }:=I.un (Un.laid k hp (I.hok.fresh hp)) (I.hok.laid k hp new)
theorem Inv.write(I:Inv X c σ H s)(d:Mut (H x))(f:e=x\/H e=some (.own x))(k:∀b u,b≠e->s.heap.get? b=some u->h'.get? b=some u)(a:∃u,h'.get? e=some u)(new:ObjOk X.prog X.w (upd H x o) h' x o):Inv X c σ (upd H x o) { s with heap:=h',toks:=t' }:=I.un (Un.write d f k a) (I.hok.write d f k a new)
theorem Inv.pins_of(I:Inv X b σ H s)(h:∀p∈a,s.heap.get? p.1=some p.2/\H p.1=none/\p.1≠X.env.locals/\p.1∉X.fs/\∀v,p.2.data≠.cell v):Inv X a σ H s :=
 ⟨I.ok,I.os,I.bare,I.base,I.loc,I.cell,I.free,I.freeC,fun p hp=>(Ap.mp hp).elim (fun z=>I.pin p (AD _ z)) (h p),I.hok,I.len⟩
theorem a2d{N:List Str}(e:N.Nodup){j:Nat}(a:N[i]? = some x)(b:N[j]? = some x):i=j:=by
 obtain⟨f,c⟩:=Aw.mp a;obtain⟨g,d⟩:=Aw.mp b;exact (List.getElem_inj e).mp (c.trans d.symm)
theorem a0c(I:Inv X L σ H s)(hN:X.N.Nodup)(hi:X.N[i]? = some x)(l:Loc X.env.scope x)(r:RelV v u)(h:∀s',Inv X L (σ.set i (some v)) H s'->(∃a,Cu a s.heap s'.heap/\(a=X.env.locals\/X.env.cells.lookup x=some a))->Q () s')(hf:X.fn x=true\/X.env.scope.names.lookup x=some .local:=by first|exact .inl rfl|exact .inr rfl|assumption):wpAny M A (storeName X.env x u) Q E s:=by
 obtain⟨m,hn,hl⟩:=id I.loc;have O:(X.env.scope.kind == .class || (X.env.scope.kind == .module && X.env.locals != X.env.globals))=false:=by rw[I.ok.kind];rfl
 have J:i<σ.length:=by rw[I.len];exact (Aw.mp hi).1
 have cne:=I.cne;have g:∀{a:Addr} {h':Heap},(∃o,s.heap.get? a=some o/\H a=none)->Cu a s.heap h'->HOk X.prog X.w H h':=fun {a h'} ha hs b ob e=>by
  obtain⟨_,_,t⟩:=ha;refine (I.hok b ob e).stay (fun c U hc q=>(hs.2 c ?_).trans q) (fun _ q=>q) fun _ _ q=>q;rintro rfl;rcases hc with rfl|hc
  . rw[t] at e;cases e
  . rw[t] at hc;cases hc
 rcases l with D|D
 . refine wpAny_storeName_local D hn (fun h' aa hs=>?_) O;obtain⟨oL,_,_,Z,_⟩:=id hn;refine h _ ⟨I.ok,I.os,I.bare,⟨fun b o e n hb l=>?_,fun b o e n hb l=>?_,I.base.free,fun b o e l=>?_,I.base.tups,I.base.frzs,I.base.tbls⟩,⟨_,aa,fun j y Y f C e3=>?_⟩,fun y c e=>?_,I.free,I.freeC,fun p hp=>?_,g ⟨oL,Z,I.free⟩ hs,by simpa using I.len⟩ ⟨_,hs,.inl rfl⟩
   . exact (hs.2 b (AA (AK (As e) I.ok.above))).trans (I.base.keep b o e n hb l)
   . obtain⟨sl,f⟩:=I.base.slot b o e n hb l;exact⟨sl,(hs.2 b (AA (AK (As e) I.ok.above))).trans f⟩
   . obtain⟨o',f⟩:=I.base.there b o e l;exact⟨o',(hs.2 b (AA (AK (As e) I.ok.above))).trans f⟩
   . by_cases G:j=i
     . subst G;rw[hi] at f;cases f;rw[Hh J] at C;cases C;exact⟨u,r,.inl ⟨D,by simp⟩⟩
     . rw[HW (AL G)] at C;obtain⟨u',r',q⟩:=hl j y Y f C e3;refine⟨u',r',?_⟩;rcases q with⟨k,e⟩|⟨k,c,e,z⟩
       . refine .inl ⟨k,?_⟩;have:y≠x:=fun e=>G (a2d hN f (e ▸ hi));simp[this,e]
       . exact .inr ⟨k,c,e,z.sameBut hs (cne y c e)⟩
   . obtain⟨U,z⟩:=I.cell y c e;exact⟨U,z.sameBut hs (cne y c e)⟩
   . obtain⟨e,n,ne,nf,d⟩:=I.pin p hp;exact⟨(hs.2 p.1 ne).trans e,n,ne,nf,d⟩
 . have F:X.fn x=true:=by
    rcases hf with z|z
    . exact z
    . rw[z] at D;cases D
   obtain⟨c,hc⟩:=I.ok.has x (.inl D);obtain⟨U,z⟩:=I.cell x c hc;refine wpAny_storeName_cell I.ok.kind D hc z (fun h' S hs=>?_);obtain⟨oc,P,T⟩:=id z;refine h { s with heap:=h' } ⟨I.ok,I.os,I.bare,⟨fun b o e n hb l=>?_,fun b o e n hb l=>?_,I.base.free,fun b o e l=>?_,I.base.tups,I.base.frzs,I.base.tbls⟩,⟨m,hn.sameBut hs (AL (cne x c hc)),fun j y Y f C e3=>?_⟩,fun y W e=>?_,I.free,I.freeC,fun p hp=>?_,g ⟨oc,P,I.freeC x c hc⟩ hs,by simpa using I.len⟩ ⟨c,hs,.inr hc⟩
   . exact (hs.2 b (AA (AK (As e) (I.ok.cab x c F hc)))).trans (I.base.keep b o e n hb l)
   . obtain⟨sl,f⟩:=I.base.slot b o e n hb l;exact⟨sl,(hs.2 b (AA (AK (As e) (I.ok.cab x c F hc)))).trans f⟩
   . obtain⟨o',f⟩:=I.base.there b o e l;exact⟨o',(hs.2 b (AA (AK (As e) (I.ok.cab x c F hc)))).trans f⟩
   . by_cases G:j=i
     . subst G;rw[hi] at f;cases f;rw[Hh J] at C;cases C;exact⟨u,r,.inr ⟨.inl D,c,hc,S⟩⟩
     . rw[HW (AL G)] at C;obtain⟨u',r',q⟩:=hl j y Y f C e3;refine⟨u',r',?_⟩;rcases q with q|⟨k,W,e,z'⟩
       . exact .inl q
       . refine .inr ⟨k,W,e,z'.sameBut hs ?_⟩;rintro rfl;exact G (a2d hN f (I.ok.inj _ _ _ e hc ▸ hi))
   . by_cases R:W=c
     . subst R;exact⟨_,S⟩
     . obtain⟨w2,z2⟩:=I.cell y W e;exact⟨w2,z2.sameBut hs R⟩
   . obtain⟨e,n,ne,nf,d⟩:=I.pin p hp;refine⟨(hs.2 p.1 ?_).trans e,n,ne,nf,d⟩;intro q;rw[q,P] at e;have q':oc=p.2:=A0 e;exact d U (by rw[<- q'];exact T)
theorem yc(I:Inv X a σ H s)(c:X.N.Nodup)(hi:X.N[i]? = some x)(b:Loc X.env.scope x)(r:RelV v u)(h:∀s',Inv X a (σ.set i (some v)) H s'->Q () s')(e:X.fn x=true\/X.env.scope.names.lookup x=some .local:=by first|exact .inl rfl|exact .inr rfl|assumption):wpAny M A (storeName X.env x u) Q E s :=
 a0c I c hi b r (fun s' d _=>h s' d) e
theorem Inv.call'(I:Inv X a σ H s)(g:s'.os=s.os)(u:Un (frs X.stack) ch H H' s.heap s'.heap)(hok:HOk X.prog X.w H' s'.heap)(h:AllBare s'.gens)(d:∀b∈ch,(b∈X.ex\/X.s₀.heap.objs.size<=b)/\b≠X.env.locals/\(∀x c,X.env.cells.lookup x=some c->c≠b)/\∀p∈X.pn++a,p.1≠b):Inv X a σ H' s':=by
 obtain⟨h',g',d',t',f⟩:=s';have e:f=s.os:=g;subst e;exact I.call (g':=g') (t':=t') (d':=d') u hok h d
abbrev XK:=Value->Option Addr->Hp->Prop
abbrev St:=List (Option V)
abbrev VK:=V->Hp->Prop
abbrev TE:=St->Hp->VK->Prop
abbrev TT:=St->Hp->(Bool->Hp->Prop)->Prop
abbrev TA:=St->Hp->(List V->Hp->Prop)->Prop
structure Ends where
 nx:St->Hp->Prop
 rt:VK
 bk:St->Hp->Prop:=fun _ _=>False
 ct:St->Hp->Prop:=fun _ _=>False
abbrev TS:=Ends->St->Hp->Prop
def EP(X:Cx)(pins:List (Addr×Obj))(σ:St)(Q:VK)(u:Value)(s':Shared):Prop:=∃v H',Inv X pins σ H' s'/\RelV v u/\Q v H'
def TP(X:Cx)(pins:List (Addr×Obj))(σ:St)(Q:Bool->Hp->Prop)(b:Bool)(s':Shared):Prop:=∃H',Inv X pins σ H' s'/\Q b H'
def AP(X:Cx)(pins:List (Addr×Obj))(σ:St)(Q:List V->Hp->Prop)(us:List Value)(s':Shared):Prop:=∃vs H',Inv X pins σ H' s'/\Vals vs us/\Q vs H'
def SP(X:Cx)(pins:List (Addr×Obj))(D:Ends)(f:Flow)(s':Shared):Prop :=
 match f with
 | .next=>∃σ' H',Inv X pins σ' H' s'/\D.nx σ' H'
 | .brk=>∃σ' H',Inv X pins σ' H' s'/\D.bk σ' H'
 | .cont=>∃σ' H',Inv X pins σ' H' s'/\D.ct σ' H'
 | .ret u=>∃v σ' H',Inv X pins σ' H' s'/\RelV v u/\D.rt v H'
def PE(X:Cx)(e:Expr)(t:TE):Prop :=
 ∀(pins:List (Addr×Obj)) (s:Shared) (σ:St) (H:Hp) (Q:VK),Inv X pins σ H s->t σ H Q->wpAny (model X.prog X.w) X.A (eval e X.env) (EP X pins σ Q) X.xe s
def PT(X:Cx)(e:Expr)(t:TT):Prop :=
 ∀(pins:List (Addr×Obj)) (s:Shared) (σ:St) (H:Hp) (Q:Bool->Hp->Prop),Inv X pins σ H s->t σ H Q->wpAny (model X.prog X.w) X.A (isTrue e X.env (eval e X.env)) (TP X pins σ Q) X.xe s
def PW(X:Cx)(e:Expr)(t:TT):Prop :=
 ∀(whole:Sem Value) (pins:List (Addr×Obj)) (s:Shared) (σ:St) (H:Hp) (Q:Bool->Hp->Prop),Inv X pins σ H s->t σ H Q->wpAny (model X.prog X.w) X.A (isTrue e X.env whole) (TP X pins σ Q) X.xe s
theorem PW.pt(h:PW X e t):PT X e t:=h _
def PA(X:Cx)(es:List Expr)(t:TA):Prop :=
 ∀(pos:Pos) (pins:List (Addr×Obj)) (s:Shared) (σ:St) (H:Hp) (Q:List V->Hp->Prop),Inv X pins σ H s->t σ H Q->wpAny (model X.prog X.w) X.A (spliced (backTo pos (starEach es X.env))) (AP X pins σ Q) X.xe s
def PS(X:Cx)(st:Stmt)(t:TS):Prop :=
 ∀(pins:List (Addr×Obj)) (s:Shared) (σ:St) (H:Hp) (D:Ends),Inv X pins σ H s->t D σ H->wpAny (model X.prog X.w) X.A (exec st X.env) (SP X pins D) X.xe s
def PSs(X:Cx)(st:List Stmt)(t:TS):Prop :=
 ∀(pins:List (Addr×Obj)) (s:Shared) (σ:St) (H:Hp) (D:Ends),Inv X pins σ H s->t D σ H->wpAny (model X.prog X.w) X.A (execs st X.env) (SP X pins D) X.xe s
theorem thn(h:wpAny M A t Q E s)(b:∀a s,Q a s->c a s):wpAny M A t c E s:=BR h b fun _ _ x=>x
def tVar(i:Nat):TE:=fun σ H Q=>∃v,σ[i]? = some (some v)/\Q v H
def tC(v:V):TE:=fun _ H Q=>Q v H
theorem aew(g:X.N[i]? = some x)(f:Vis X.env.scope x)(hd:(x == ("__debug__" : Str))=false:=by decide)(hcd:(x == ("__classdict__" : Str))=false:=by decide):PE X (.Name x pos) (tVar i):=by
 intro d s σ H Q I h;obtain⟨v,e,h⟩:=h;obtain⟨m,hn,hl⟩:=I.loc;obtain⟨u,r,l⟩:=hl i x v g e f;have fin:EP X d σ Q u s:=⟨v,H,I,r,h⟩
 rcases l with⟨b,hm⟩|⟨b,c,hc,a⟩
 . exact Jq (wpAny_loadName_local I.ok.kind b hn hm fin) hd
 . rcases b with b|b
   . exact Jq (wpAny_loadName_cell I.ok.kind b hc a fin) hd
   . exact Jq (wpAny_loadName_free I.ok.kind b hc a fin hcd) hd
theorem sj{i j pos}:PE X (.Constant (.int i) j pos) (tC (.int i)):=fun _ _ _ H _ I h=>wpAny_Constant_int ⟨.int i,H,I.tok _,⟨_,rfl⟩,h⟩
theorem abj{b j pos}:PE X (.Constant (.bool b) j pos) (tC (.bl b)):=fun _ _ _ H _ I h=>Constant_bool ⟨.bl b,H,I,rfl,h⟩
theorem adz{j pos}:PE X (.Constant .none j pos) (tC .non):=fun _ _ _ H _ I h=>Constant_none ⟨.non,H,I,rfl,h⟩
theorem a2q{x j pos}:PE X (.Constant (.str x) j pos) (tC (.str x)):=fun _ _ _ H _ I h=>Calls.Constant_str ⟨.str x,H,I.tok _,⟨_,rfl⟩,h⟩
def Gl(X:Cx)(x:Str):Prop:=X.env.kindOf x=some .globalImplicit
theorem zq(I:Inv X a σ H s)(b:Gl X x)(hm:X.mg x=some u)(h:Q u s)(hd:(x == ("__debug__" : Str))=false:=by decide):wpAny (model X.prog X.w) X.A (eval (.Name x pos) X.env) Q E s :=
 FE I.ok.kind b (Calls.loadGlobal_global (by rw[I.ok.glob];exact I.mod.glob.keeps I.bk) hm h) hd
theorem nz(I:Inv X a σ H s)(d:Gl X x)(hm:X.mg x=none)(c:bootBuiltins x=some u)(h:Q u s)(hn:x ≠ "__name__" := by decide)(hd:(x == ("__debug__" : Str))=false:=by decide):wpAny (model X.prog X.w) X.A (eval (.Name x pos) X.env) Q E s:=by
 obtain⟨f,b,e⟩:=I.mod.blt;exact FE I.ok.kind d (Calls.loadGlobal_builtin (by rw[I.ok.glob];exact I.mod.glob.keeps I.bk) hm (by rw[I.ok.blt];exact b.keeps I.bk) ((e x hn).trans c) h) hd
theorem ac3(a:Gl X x)(hm:X.mg x=some u)(r:RelV v u)(hd:(x == ("__debug__" : Str))=false:=by decide):PE X (.Name x pos) (tC v) :=
 fun _ _ _ H _ I h=>zq I a hm ⟨v,H,I,r,h⟩ hd
def PC(X:Cx)(op:CmpOp)(a b:Expr)(t:TE):Prop :=
 ∀(pins:List (Addr×Obj)) (s:Shared) (σ:St) (H:Hp) (Q:VK),Inv X pins σ H s->t σ H Q->
   wpAny (model X.prog X.w) X.A (eval a X.env) (fun v s₁=>wpAny (model X.prog X.w) X.A (eval b X.env) (fun u s₂=>wpAny (model X.prog X.w) X.A (compareOp op v u) (EP X pins σ Q) X.xe s₂) X.xe s₁) X.xe s
def tB(t:TE):TT:=fun σ H Q=>t σ H fun x H1=>∃c,x=.bl c/\Q c H1
theorem aer(h:PC X op a b t)(f:behindInMarks op b=false:=by first|exact nobehind _ (by decide) (by decide)|rfl):PT X (.Compare a [op] [b] pos) (tB t):=by
 intro e s σ H Q I m;refine Hy (thn (h e s σ H _ I m) fun v o f=>thn f fun u p l=>thn l fun c n ⟨x,j,i,k,g⟩=>?_) f;obtain⟨d,rfl,q⟩:=g;cases k;exact BY ⟨j,i,q⟩
theorem adv(h:PE X e t)(k:∀a,isTrue e X.env a=(do let v<-a;standAt e.pos;holding [v] (truthy v)):=by intro _;rfl):PT X e (tB t):=by
 intro b s σ H Q I j;refine isTrue_plain (thn (h b s σ H _ I j) fun v l ⟨x,g,f,i,c⟩=>?_) (k _);obtain⟨d,rfl,q⟩:=c;cases i;exact BY ⟨g,f,q⟩
def tAnd(t u:TT):TT:=fun σ H Q=>t σ H fun c H1=>if c=true then u σ H1 Q else Q false H1
def tOr(t u:TT):TT:=fun σ H Q=>t σ H fun c H1=>if c=true then Q true H1 else u σ H1 Q
theorem acm(ha:PT X a d):PW X (.BoolOp .And [a] pos) d:=by
 intro f b s σ H Q I h;refine isTrue_and (thn (ha b s σ H Q I h) fun c g e=>?_);cases c with
 | true=>exact isTrue_and_nil e
 | false=>exact e
theorem a5v(ha:PT X a d):PW X (.BoolOp .Or [a] pos) d:=by
 intro f b s σ H Q I h;refine isTrue_or (thn (ha b s σ H Q I h) fun c g e=>?_);cases c with
 | false=>exact isTrue_or_nil e
 | true=>exact e
theorem ael{rest:List Expr}(ha:PT X a l)(hb:PW X (.BoolOp .And (b::rest) pos) e):PW X (.BoolOp .And (a::b::rest) pos) (tAnd l e):=by
 intro j d s σ H Q I h;refine isTrue_and (thn (ha d s σ H _ I h) fun c k ⟨i,g,f⟩=>?_);cases c with
 | true=>exact hb j d k σ i Q g f
 | false=>exact⟨i,g,f⟩
theorem a4y{rest:List Expr}(ha:PT X a l)(hb:PW X (.BoolOp .Or (b::rest) pos) e):PW X (.BoolOp .Or (a::b::rest) pos) (tOr l e):=by
 intro j d s σ H Q I h;refine isTrue_or (thn (ha d s σ H _ I h) fun c k ⟨i,g,f⟩=>?_);cases c with
 | true=>exact⟨i,g,f⟩
 | false=>exact hb j d k σ i Q g f
def afr(ta tb:TE):TE:=fun σ H Q=>ta σ H fun x H1=>∃c,x=.bl c/\if c=true then tb σ H1 Q else Q (.bl false) H1
def tOrV(ta tb:TE):TE:=fun σ H Q=>ta σ H fun x H1=>∃c,x=.bl c/\if c=true then Q (.bl true) H1 else tb σ H1 Q
theorem a7c{op}(h:PE X a t):PE X (.BoolOp op [a] pos) t:=fun b s σ H Q I c=>BoolOp_one (h b s σ H Q I c)
theorem aem{rest:List Expr}(ha:PE X a i)(hb:PE X (.BoolOp .And (b::rest) pos) k):PE X (.BoolOp .And (a::b::rest) pos) (afr i k):=by
 intro d s σ H Q I h;refine BoolOp_and (thn (ha d s σ H _ I h) fun v j ⟨x,g,f,l,e⟩=>?_);obtain⟨c,rfl,e⟩:=e;cases l;refine BY ?_;cases c with
 | true=>exact hb d j σ g Q f e
 | false=>exact⟨.bl false,g,f,rfl,e⟩
theorem af9{rest:List Expr}(ha:PE X a i)(hb:PE X (.BoolOp .Or (b::rest) pos) k):PE X (.BoolOp .Or (a::b::rest) pos) (tOrV i k):=by
 intro d s σ H Q I h;refine BoolOp_or (thn (ha d s σ H _ I h) fun v j ⟨x,g,f,l,e⟩=>?_);obtain⟨c,rfl,e⟩:=e;cases l;refine BY ?_;cases c with
 | false=>exact hb d j σ g Q f e
 | true=>exact⟨.bl true,g,f,rfl,e⟩
def tIf(t:TT)(ta tb:TE):TE:=fun σ H Q=>t σ H fun c H1=>if c=true then ta σ H1 Q else tb σ H1 Q
theorem aa1(hc:PT X c m)(ha:PE X a k)(hb:PE X b l):PE X (.IfExp c a b pos) (tIf m k l):=by
 intro e s σ H Q I h;refine wpAny_IfExp (thn (hc e s σ H _ I h) fun d i ⟨j,g,f⟩=>?_);cases d with
 | true=>exact ha e i σ j Q g f
 | false=>exact hb e i σ j Q g f
def SqL(K:Ac)(H:Hp)(a:Addr)(xs:List V):Prop :=
 Rd H a (.lst xs)\/
  ∃(o:Obj) (its:Array Value) (n:Nat),K.lookup a=some o/\o.cls=.type "list" /\ o.dict=none/\o.data=.seq its n/\its.size<=sizeLine/\Vals xs its.toList
def SqT(K:Ac)(H:Hp)(a:Addr)(xs:List V):Prop :=
 Rd H a (.tup xs)\/
  ∃(o:Obj) (its:Array Value) (n:Nat),K.lookup a=some o/\o.cls=.type "tuple" /\ o.data=.seq its n/\its.size<=sizeLine/\Vals xs its.toList
def absV:Value->Option V
 | .none=>some .non
 | .bool b=>some (.bl b)
 | .int i _=>some (.int i)
 | .str x _=>some (.str x)
 | .bytes b _=>some (.byt b)
 | .float b _=>some (.flt b)
 | .ref a=>some (.ref a)
 | .type n=>some (.ty n)
 | _=>none
theorem RelV.abs(r:RelV x u):absV u=some x:=by
 cases x with
 | non=>cases r;rfl
 | bl _=>cases r;rfl
 | int _=>obtain⟨t,rfl⟩:=r;rfl
 | str _=>obtain⟨t,rfl⟩:=r;rfl
 | byt _=>obtain⟨t,rfl⟩:=r;rfl
 | flt _=>obtain⟨t,rfl⟩:=r;rfl
 | ref _=>cases r;rfl
 | ty _=>cases r;rfl
theorem RelV.inj(r:RelV x u)(q:RelV y u):x=y:=A0 (r.abs.symm.trans q.abs)
theorem Vals.inj:∀{xs ys:List V}{us:List Value},Vals xs us->Vals ys us->xs=ys
 | _,_,_,.nil,.nil=>rfl
 | _,_,_,.cons r t,.cons r' t'=>by rw[r.inj r',Vals.inj t t']
theorem SqL.of{K:Ac}(h:H a=some (.lst xs)):SqL K H a xs:=.inl (.inl h)
theorem SqT.of{K:Ac}(h:H a=some (.tup xs)):SqT K H a xs:=.inl (.inl h)
theorem Inv.list(I:Inv X b σ H s)(h:SqL X.K H a xs):∃its:List Value,Vals xs its/\PlainL s.heap a its.toArray/\xs.length<=sizeLine:=by
 rcases h with h|⟨o,its,n,c,hc,hd,hs,hz,r⟩
 . obtain⟨z,its,n,r,e⟩:=h.ok I.hok;exact⟨its,r,⟨_,n,e,rfl,rfl,rfl⟩,z⟩
 . refine⟨its.toList,r,⟨o,n,I.kIn a o c,hc,hd,by simpa using hs⟩,?_⟩;have e:=r.length;simp only[Bi] at e
   lia
theorem Inv.tuple(I:Inv X b σ H s)(h:SqT X.K H a xs):∃its:List Value,Vals xs its/\IsTup s.heap a its.toArray/\xs.length<=sizeLine:=by
 rcases h with h|⟨o,its,n,c,hc,hs,hz,r⟩
 . obtain⟨z,its,r,p⟩:=h.ok I.hok;exact⟨its,r,p,z⟩
 . refine⟨its.toList,r,⟨o,I.kIn a o c,hc,n,by simpa using hs⟩,?_⟩;have e:=r.length;simp only[Bi] at e
   lia
theorem Inv.list_inj(I:Inv X b σ H s)(h:SqL X.K H a xs)(h':SqL X.K H a ys):xs=ys:=by
 obtain⟨its,r,⟨o,n,e,_,_,d⟩,_⟩:=I.list h;obtain⟨its',f,⟨g,i,c,_,_,d'⟩,_⟩:=I.list h';rw[e] at c;cases c;rw[d] at d';injection d' with d1 _;have:its=its':=by simpa using congrArg JJ d1
 subst this;exact r.inj f
theorem Inv.tuple_inj(I:Inv X b σ H s)(h:SqT X.K H a xs)(h':SqT X.K H a ys):xs=ys:=by
 obtain⟨its,r,⟨o,e,_,n,d⟩,_⟩:=I.tuple h;obtain⟨its',f,⟨g,c,_,i,d'⟩,_⟩:=I.tuple h';rw[e] at c;cases c;rw[d] at d';injection d' with d1 _;have:its=its':=by simpa using congrArg JJ d1
 subst this;exact r.inj f
abbrev Cx.wish(X:Cx)(E:Value->Shared->Prop):Cx:={ X with xe:=E }
abbrev Cx.nox(X:Cx):Cx:=X.wish fun _ _=>False
theorem Cx.Ok.wish{X:Cx}(ok:X.Ok)(E:Value->Shared->Prop):(X.wish E).Ok :=
 ⟨ok.mod,ok.kind,ok.glob,ok.blt,ok.above,ok.inj,ok.has,ok.cab,ok.hd,ok.frames,ok.stk,ok.exf,ok.bs,ok.bsz,ok.noex,ok.exfs,ok.funs,ok.frf⟩
theorem Cx.Ok.unwish{X:Cx}(ok:(X.wish E).Ok):X.Ok :=
 ⟨ok.mod,ok.kind,ok.glob,ok.blt,ok.above,ok.inj,ok.has,ok.cab,ok.hd,ok.frames,ok.stk,ok.exf,ok.bs,ok.bsz,ok.noex,ok.exfs,ok.funs,ok.frf⟩
theorem Inv.wish(I:Inv X a σ H s)(E:Value->Shared->Prop):Inv (X.wish E) a σ H s:=⟨I.ok.wish E,I.os,I.bare,I.base,I.loc,I.cell,I.free,I.freeC,I.pin,I.hok,I.len⟩
theorem Inv.unwish(I:Inv (X.wish E) a σ H s):Inv X a σ H s:=⟨I.ok.unwish,I.os,I.bare,I.base,I.loc,I.cell,I.free,I.freeC,I.pin,I.hok,I.len⟩
theorem SP.unwish(h:SP (X.wish E) b D f s'):SP X b D f s':=by
 cases f with
 | next=>obtain⟨a,H',I,q⟩:=h;exact⟨a,H',I.unwish,q⟩
 | brk=>obtain⟨a,H',I,q⟩:=h;exact⟨a,H',I.unwish,q⟩
 | cont=>obtain⟨a,H',I,q⟩:=h;exact⟨a,H',I.unwish,q⟩
 | ret u=>obtain⟨v,a,H',I,r,q⟩:=h;exact⟨v,a,H',I.unwish,r,q⟩
theorem PSs.nox{st:List Stmt}(h:PSs X.nox st t):PSs X st t:=fun a s σ H D I b =>
 BR (h a s σ H D (I.wish _) b) (fun _ _ q=>q.unwish) fun _ _ z=>Cw z
def a5f:TS:=fun D σ H=>D.nx σ H
def tSeq(t u:TS):TS:=fun D σ H=>t { D with nx:=u D } σ H
theorem a3b:PSs X [] a5f:=fun _ _ σ H _ I h=>EZ ⟨σ,H,I,h⟩
theorem ul{st:Stmt}{rest:List Stmt}(b:PS X st t)(e:PSs X rest u):PSs X (st::rest) (tSeq t u):=by
 intro a s σ H D I h;refine Jf (thn (b a s σ H { D with nx:=u D } I h) fun f c q=>?_);cases f with
 | next =>
  obtain⟨d,H',g,q⟩:=q;exact e a c d H' D g q
 | ret v=>exact q
 | brk=>exact q
 | cont=>exact q
theorem sv{st:Stmt}(b:PS X st t):PSs X [st] t:=by
 intro a s σ H D I h;refine Jf (thn (b a s σ H D I h) fun f c q=>?_);cases f with
 | next=>exact EZ q
 | ret v=>exact q
 | brk=>exact q
 | cont=>exact q
theorem Inv.quiet(I:Inv X a σ H s):interactive X.env=false:=by simp[interactive,I.ok.kind]
def mn(te:TE):TS:=fun D σ H=>te σ H fun _ H1=>D.nx σ H1
theorem a3v(f:PE X e te)(hs:swapsWith e none pos.line X.env=pure false:=by rfl):PS X (.Expr e pos) (mn te):=by
 intro a s σ H D I h;exact wpAny_Expr_any (thn (f a s σ H _ I h) fun v g ⟨x,d,c,i,b⟩=>⟨σ,d,c,b⟩) I.quiet hs
def tRet(te:TE):TS:=fun D σ H=>te σ H D.rt
theorem yo(g:PE X e te):PS X (.Return (some e) pos) (tRet te):=by
 intro a s σ H D I h;exact wpAny_Return_some (thn (g a s σ H _ I h) fun v i ⟨x,d,c,f,b⟩=>⟨x,σ,d,c,f,b⟩)
def ab7:TS:=fun D _ H=>D.rt .non H
theorem aco:PS X (.Return none pos) ab7:=fun _ _ σ H _ I h=>wpAny_Return_none ⟨.non,σ,H,I,rfl,h⟩
def tIfS(c:TT)(t u:TS):TS:=fun D σ H=>c σ H fun b H1=>if b=true then t D σ H1 else u D σ H1
theorem ab0(hc:PT X c k)(ha:PSs X a t)(hb:PSs X b u):PS X (.If c a b pos) (tIfS k t u):=by
 intro e s σ H D I h;refine wpAny_If (thn (hc e s σ H _ I h) fun d i ⟨j,g,f⟩=>?_);cases d with
 | true=>exact ha e i σ j D g f
 | false=>exact hb e i σ j D g f
abbrev TG:=V->St->Hp->(St->Hp->Prop)->Prop
abbrev TGs:=List V->St->Hp->(St->Hp->Prop)->Prop
def PG(X:Cx)(target:Expr)(t:TG):Prop :=
 ∀(pins:List (Addr×Obj)) (s:Shared) (σ:St) (H:Hp) (v:V) (u:Value) (Q:St->Hp->Prop),Inv X pins σ H s->RelV v u->t v σ H Q->
   wpAny (model X.prog X.w) X.A (assign target X.env u) (fun _ s'=>∃σ' H',Inv X pins σ' H' s'/\Q σ' H') X.xe s
def PGs(X:Cx)(ts:List Expr)(t:TGs):Prop :=
 ∀(pins:List (Addr×Obj)) (s:Shared) (σ:St) (H:Hp) (vs:List V) (us:List Value) (Q:St->Hp->Prop),Inv X pins σ H s->Vals vs us->t vs σ H Q->
   wpAny (model X.prog X.w) X.A (assignInOrder ((assignEach ts X.env).map (·.2)) us) (fun _ s'=>∃σ' H',Inv X pins σ' H' s'/\Q σ' H') X.xe s
abbrev TSet:=V->V->V->Hp->(Hp->Prop)->Prop
def PSet(X:Cx)(t:TSet):Prop :=
 ∀(pins:List (Addr×Obj)) (s:Shared) (σ:St) (H:Hp) (o i v:V) (ov iv u:Value) (Q:Hp->Prop),Inv X pins σ H s->RelV o ov->RelV i iv->RelV v u->t o i v H Q->
   wpAny (model X.prog X.w) X.A (setItem ov iv u) (fun _ s'=>∃H',Inv X pins σ H' s'/\Q H') X.xe s
def gq(i:Nat):TG:=fun v σ H Q=>Q (σ.set i (some v)) H
theorem wo(c:X.N.Nodup)(hi:X.N[i]? = some x)(b:Loc X.env.scope x)(e:X.fn x=true\/X.env.scope.names.lookup x=some .local:=by first|exact .inl rfl|exact .inr rfl|assumption):PG X (.Name x pos) (gq i):=by
 intro a s σ H v u Q I r h;exact FR (yc I c hi b r (fun s' d=>⟨_,H,d,h⟩) e)
def gNil:TGs:=fun vs σ H Q=>vs=[]/\Q σ H
def my(t:TG)(u:TGs):TGs:=fun vs σ H Q=>∃v r,vs=v::r/\t v σ H fun σ' H'=>u r σ' H' Q
theorem wg:PGs X [] gNil:=by
 intro a s σ H vs us Q I r h;obtain⟨e,h⟩:=h;subst e;cases r;exact assignInOrder_nil ⟨σ,H,I,h⟩
theorem kj(c:PG X e t)(k:PGs X es u)(hs:(assignEach (e::es) X.env).map (·.2)=assign e X.env::(assignEach es X.env).map (·.2):=by rfl):PGs X (e::es) (my t u):=by
 intro a s σ H vs us Q I r h;obtain⟨v,l,b,h⟩:=h;subst b;cases r with
 | cons r rr =>
  rw[hs];refine assignInOrder_cons (thn (c a s σ H _ _ _ I r h) fun _ i ⟨d,j,g,f⟩=>?_);exact k a i d j _ _ Q g rr f
def gTup(K:Ac)(n:Nat)(t:TGs):TG:=fun v σ H Q=>∃a xs,v=.ref a/\SqT K H a xs/\xs.length=n/\t xs σ H Q
theorem a1t(hc:X.calm=true)(h:PGs X es t)(hn:(assignEach es X.env).length=n:=by rfl)(d:(assignEach es X.env).findIdx? (·.1)=none:=by rfl):PG X (.Tuple es k pos) (gTup X.K n t):=by
 intro c s σ H v u Q I r f;obtain⟨a,xs,i,hq,hl,f⟩:=f;subst i;cases r;obtain⟨its,g,ht,hz⟩:=I.tuple hq;refine assign_Tuple_tuple (I.ok.hd hc) ht (by simp[hn,<- hl,g.length]) d fun h' j=>?_;have l:Inv X c σ H { s with heap:=h' }:=I.kept (t':=s.toks) fun b o e=>j b o (AA (As e)) e;exact h c _ σ H xs _ Q l (by simpa using g) f
def gSub(to ti:TE)(t:TSet):TG:=fun v σ H Q=>to σ H fun o H1=>ti σ H1 fun i H2=>t o i v H2 fun H3=>Q σ H3
theorem aek(k:PE X o to)(hi:PE X i C)(hs:PSet X t)(ha:∀v,assign (.Subscript o i pos) X.env v=(do
 let b<-holding [v] (eval o X.env);let c<-holding [v,b] (eval i X.env)
 standAt pos
 holding [v,b,c] (setItem b c v)
 release [v,b,c] []):=by intro _;rfl):PG X (.Subscript o i pos) (gSub to C t):=by
 intro a s σ H v u Q I r h;rw[ha];refine Aa (AX (thn (k a s σ H _ I h) fun b e ⟨x,n,z,p,d⟩=>?_));refine Aa (AX (thn (hi a e σ n _ z d) fun c w ⟨y,A,j,g,q⟩=>?_));refine Aa (EO (Aa (AX (thn (hs a w σ A x y v b c u _ j p g r q) fun _ D ⟨l,m,f⟩=>?_))));exact wpAny_release ⟨σ,l,m,f⟩
def tAsg(te:TE)(g:TG):TS:=fun D σ H=>te σ H fun x H1=>g x σ H1 D.nx
theorem aea(n:PE X e te)(l:PG X b g)(hs:swapsWithSole [b] e pos.line X.env=pure false:=by rfl)(m:swappedStores [b] e X.env=pure none:=by rfl)(c:(assignEach [b] X.env).map (·.2)=[assign b X.env]:=by rfl):PS X (.Assign [b] e pos) (tAsg te g):=by
 intro a s σ H D I h;refine wpAny_Assign_stores (thn (n a s σ H _ I h) fun v i ⟨x,j,f,k,d⟩=>?_) hs m;rw[c];exact thn (l a i σ j x v _ f k d) fun _ o q=>q
theorem a8g(l:X.N.Nodup)(hi:X.N[i]? = some x)(c:Loc X.env.scope x)(m:PE X e te)(hs:swapsWith e (some (.Name x a)) pos.line X.env=pure false:=by rfl)(n:X.fn x=true\/X.env.scope.names.lookup x=some .local:=by first|exact .inl rfl|exact .inr rfl|assumption):
 PS X (.Assign [.Name x a] e pos) (tAsg te (gq i)):=by
 intro b s σ H D I h;refine wpAny_Assign_Name (thn (m b s σ H _ I h) fun v o ⟨y,j,g,k,d⟩=>?_) hs;exact yc g l hi c k (fun p f=>⟨_,j,f,d⟩) n
def uz(c:TT)(tb:TS):TS:=fun D σ H=>∃W:Nat->St->Hp->Prop,(∃m,W m σ H)/\∀m σ H,W m σ H->
 c σ H fun b H1=>if b=true then ∃N:St->Hp->Prop,(∀σ' H',N σ' H'->∃m',m'<m/\W m' σ' H')/\tb { D with nx:=N,ct:=N,bk:=D.nx } σ H1 else D.nx σ H1
theorem a99(hp:PassesOwn (model X.prog X.w) X.A X.env X.xe)(hc:PT X c G)(hb:PSs X body z):PS X (.While c body [] pos) (uz G z):=by
 intro a s σ H D I h;obtain⟨W,⟨y,E⟩,g⟩:=h;refine wpAny_While (codeAny_whileLoop (fun n s'=>∃r H',Inv X a r H' s'/\W n r H') ?_ y ⟨σ,H,I,E⟩);rintro n x ⟨i,q,J,C⟩;refine CZ hp (thn (hc a x i q _ J (g n i q C)) fun b F ⟨u,p,k⟩=>?_);cases b with
 | true =>
  obtain⟨N,t,k⟩:=k;rw[if_pos rfl];refine CZ hp (thn (hb a F i u _ p k) fun f L j=>?_);cases f with
  | next =>
   obtain⟨e,d,m,n3⟩:=j;obtain⟨l,hm,o⟩:=t e d n3;exact⟨l,hm,e,d,m,o⟩
  | cont =>
   obtain⟨e,d,m,n3⟩:=j;obtain⟨l,hm,o⟩:=t e d n3;exact⟨l,hm,e,d,m,o⟩
  | brk=>exact j
  | ret v=>exact j
 | false =>
  rw[if_neg Ai];exact EZ ⟨i,u,p,k⟩
structure It where
 go:Nat->Hp->Prop
 yld:Nat->Hp->V->Hp->Prop
 stop:Nat->Hp->Prop
def FpOk(X:Cx)(pins:List (Addr×Obj))(H:Hp)(b:Addr):Prop :=
 H b=none/\b≠X.env.locals/\b∉X.fs/\(b∈X.ex\/X.s₀.heap.objs.size<=b)/\(∀x c,X.env.cells.lookup x=some c->c≠b)/\∀p∈X.pn++pins,p.1≠b
theorem Inv.fpOk(I:Inv X a σ H s)(hb:s.heap.objs.size<=b)(hn:H' b=none):FpOk X a H' b:=by
 refine⟨hn,BX (AK I.lt hb),I.nofs hb,.inr (Ax I.sz hb),fun x c e z=>?_,fun p hp z=>?_⟩
 . obtain⟨v,q⟩:=I.cell x c e;exact absurd (AK q.lt (by rw[z];exact hb)) (Bx _)
 . exact absurd (AK (As (I.pin p hp).1) (by rw[z];exact hb)) (Bx _)
structure Turn(P:Program)(w:World)(K:Ac)(tg:Expr)(J:It)(fp:List Addr)(it:Addr)(tn:Nat->Heap->Prop):Prop where
 mem:it∈fp
 obj:∀i h,tn i h->∀b∈fp,∃o,h.get? b=some o/\∀v,o.data≠.cell v
 keep:∀i h h',tn i h->(∀b∈fp,∀o,h.get? b=some o->h'.get? b=some o)->tn i h'
 item:∀(X:Cx),X.prog=P->X.w=w->X.K=K->X.calm=true->∀(i:Nat) (pins:List (Addr×Obj)) (s:Shared) (σ:St) (H:Hp) (E:Value->Shared->Prop),Inv X pins σ H s->(∀b∈fp,FpOk X pins H b)->tn i s.heap->J.go i H->
  wpAny (model P w) X.A (pyNext (.ref it)) (fun r s1=>∃u,r=some u/\
   wpAny (model P w) X.A (letOwnedTupleGo tg (.ref it) u) (fun _ s2=>∃x H',Inv X pins σ H' s2/\RelV x u/\J.yld i H x H'/\tn (i+1) s2.heap/\∀b∈fp,H' b=none) E s1) E s
 done:∀(X:Cx),X.prog=P->X.w=w->X.K=K->X.calm=true->∀(i:Nat) (pins:List (Addr×Obj)) (s:Shared) (σ:St) (H:Hp) (E:Value->Shared->Prop),Inv X pins σ H s->(∀b∈fp,FpOk X pins H b)->tn i s.heap->J.stop i H->
  wpAny (model P w) X.A (pyNext (.ref it)) (fun r s1=>r=none/\Inv X pins σ H s1) E s
 self:∀(A:Around) (i:Nat) (s:Shared) (Q:Value->Shared->Prop) (E:Value->Shared->Prop),tn i s.heap->Q (.ref it) s->wpAny (model P w) A (pyIter (.ref it)) Q E s
abbrev TI:=St->Hp->(It->Hp->Prop)->Prop
def PIE(X:Cx)(pins:List (Addr×Obj))(σ:St)(tg:Expr)(R:It->Hp->Prop)(itv:Value)(s2:Shared):Prop :=
 ∃(it:Addr) (fp:List Addr) (tn:Nat->Heap->Prop) (J:It) (H':Hp),itv=.ref it/\Inv X pins σ H' s2/\Turn X.prog X.w X.K tg J fp it tn/\tn 0 s2.heap/\(∀b∈fp,FpOk X pins H' b)/\R J H'
def PI(X:Cx)(tg iter:Expr)(wi:TI):Prop :=
 ∀(pins:List (Addr×Obj)) (s:Shared) (σ:St) (H:Hp) (R:It->Hp->Prop),Inv X pins σ H s->wi σ H R->
   wpAny (model X.prog X.w) X.A (eval iter X.env) (fun v s1=>wpAny (model X.prog X.w) X.A (pyIter v) (PIE X pins σ tg R) X.xe s1) X.xe s
theorem yr(b:s.heap.get? it=some o)(hc:o.cls=.type n)(hd:o.data=.fields vs)(hn:["enumerate","zip","dict_itemiterator","dict_reverseitemiterator","odict_iterator","itertools.zip_longest","itertools.pairwise"].contains n=false)(a:Q () s):wpAny M A (letOwnedTupleGo c (.ref it) u) Q E s:=by
 unfold letOwnedTupleGo;cases c<;>first
  | exact Ae a
  | (cases u<;>first
   | exact Ae a
   | (refine Aa (Jr b ?_)
      rw[hc,hd];show wpAny M A (if (["enumerate","zip","dict_itemiterator","dict_reverseitemiterator","odict_iterator","itertools.zip_longest","itertools.pairwise"].contains n && vs[0]? == some (rawInt _))=true then _ else _) Q E s;rw[if_neg (by intro h;rw[hn,Fo] at h;cases h)];exact Ae a))
def Itl(K:Ac)(a:Addr):It :=
 ⟨fun i H=>∃xs x,SqL K H a xs/\xs[i]? = some x,fun i H x H'=>H'=H/\∀xs,SqL K H a xs->xs[i]? = some x,fun i H=>∃xs,SqL K H a xs/\xs.length<=i⟩
def Itt(K:Ac)(a:Addr):It :=
 ⟨fun i H=>∃xs x,SqT K H a xs/\xs[i]? = some x,fun i H x H'=>H'=H/\∀xs,SqT K H a xs->xs[i]? = some x,fun i H=>∃xs,SqT K H a xs/\xs.length<=i⟩
def Itr(lo:Int)(n:Nat):It:=⟨fun i _=>i<n,fun i H x H'=>H'=H/\x=.int (lo+i),fun i _=>n<=i⟩
theorem a6s{K:Ac}(a it:Addr):Turn P w K N (Itl K a) [it] it (fun i h=>h.IsListIter it a i) where
 mem:=by simp
 obj:=fun i h st b hb=>by
  have e:b=it:=by simpa using hb
  subst e;obtain⟨o,e,c,d⟩:=st;exact⟨o,e,fun v z=>by rw[d] at z;cases z⟩
 keep:=fun i h h' st k=>st.at fun o e=>k it (by simp) o e
 item:=by
  intro X n C hK hc i f s σ H E I j st y;subst n C hK;obtain⟨xs,x,hq,l⟩:=y;obtain⟨its,A,p,hz⟩:=I.list hq;obtain⟨u,D,M⟩:=A.get l;obtain⟨t,f1,f2,m,r,q⟩:=j it (by simp);refine EK st p.isList (x:=u) (by simpa using D) fun h' g F=>?_;have G:Inv X f σ H { s with heap:=h' }:=I.turned (t':=s.toks) (fun b o hb e=>(F.2 b hb).trans e) t f1 m r q;obtain⟨o,e,c,d⟩:=id g;exact⟨u,rfl,yr (s:={ s with heap:=h' }) e c d (by decide) ⟨x,H,G,M,⟨rfl,fun ys L=>by rw[I.list_inj L hq];exact l⟩,g,fun b hb=>(j b hb).1⟩⟩
 done:=by
  intro X n C hK hc i f s σ H E I j st y;subst n C hK;obtain⟨xs,hq,l⟩:=y;obtain⟨its,A,p,hz⟩:=I.list hq;obtain⟨t,f1,f2,m,r,q⟩:=j it (by simp);have hl:=A.length;exact ET (I.ok.hd hc) st p.isList (by simp;lia) fun h' J=>⟨rfl,I.turned (t':=s.toks) (fun b o hb e=>J b o hb e) t f1 m r q⟩
 self:=fun _ _ _ _ _ st h=>wpAny_pyIter_listiter st h
theorem a5c{K:Ac}(a it:Addr):Turn P w K N (Itt K a) [it] it (fun i h=>h.IsTupleIter it a i) where
 mem:=by simp
 obj:=fun i h st b hb=>by
  have e:b=it:=by simpa using hb
  subst e;obtain⟨o,e,c,d⟩:=st;exact⟨o,e,fun v z=>by rw[d] at z;cases z⟩
 keep:=fun i h h' st k=>st.at fun o e=>k it (by simp) o e
 item:=by
  intro X n C hK hc i f s σ H E I j st y;subst n C hK;obtain⟨xs,x,hq,l⟩:=y;obtain⟨its,A,p,hz⟩:=I.tuple hq;obtain⟨u,D,M⟩:=A.get l;obtain⟨t,f1,f2,m,r,q⟩:=j it (by simp);refine wpAny_pyNext_tuple_item st (show s.heap.IsTuple a its.toArray from p) (x:=u) (by simpa using D) fun h' g F=>?_;have G:Inv X f σ H { s with heap:=h' }:=I.turned (t':=s.toks) (fun b o hb e=>(F.2 b hb).trans e) t f1 m r q;obtain⟨o,e,c,d⟩:=id g;exact⟨u,rfl,yr (s:={ s with heap:=h' }) e c d (by decide) ⟨x,H,G,M,⟨rfl,fun ys L=>by rw[I.tuple_inj L hq];exact l⟩,g,fun b hb=>(j b hb).1⟩⟩
 done:=by
  intro X n C hK hc i f s σ H E I j st y;subst n C hK;obtain⟨xs,hq,l⟩:=y;obtain⟨its,A,p,hz⟩:=I.tuple hq;obtain⟨t,f1,f2,m,r,q⟩:=j it (by simp);have hl:=A.length;exact wpAny_pyNext_tuple_end (I.ok.hd hc) st (show s.heap.IsTuple a its.toArray from p) (by simp;lia) fun h' J=>⟨rfl,I.turned (t':=s.toks) (fun b o hb e=>J b o hb e) t f1 m r q⟩
 self:=fun _ _ _ _ _ st h=>wpAny_pyIter_tupleiter st h
theorem a5a{K:Ac}(it:Addr)(lo:Int)(n:Nat):Turn P w K A (Itr lo n) [it] it (fun i h=>IsRangeIter h it (lo+(i:Nat)*1) ((n:Int) - (i:Nat)) 1) where
 mem:=by simp
 obj:=fun i h st b hb=>by
  have e:b=it:=by simpa using hb
  subst e;exact⟨_,st,fun v z=>by
   have r:Data.fields _=Data.cell v:=z;cases r⟩
 keep:=fun i h h' st k=>k it (by simp) _ st
 item:=by
  intro X g q hK hc i a s σ H E I d st p;subst g q hK;obtain⟨m,f1,f2,f,l,j⟩:=d it (by simp);have W:=JN (prog:=X.prog) (w:=X.w) (I.ok.hd hc) it lo 1 n;refine W.item i s _ _ p st fun v h' tk u c kk=>?_;obtain⟨t,rfl⟩:=u;have x:Inv X a σ H { s with heap:=h',toks:=tk }:=I.turned (fun b o hb e=>kk b o (by simpa using hb) e) m f1 f l j;refine⟨_,rfl,yr (s:={ s with heap:=h',toks:=tk }) (n := "range_iterator") c rfl rfl (by decide) ⟨.int (lo+i),H,x,⟨t,?_⟩,⟨rfl,rfl⟩,c,fun b hb=>(d b hb).1⟩⟩;rw[Int.mul_one]
 done:=by
  intro X g q hK hc i a s σ H E I d st p;subst g q hK;obtain⟨m,f1,f2,f,l,j⟩:=d it (by simp);exact Hi (I.ok.hd hc) st (by have:n<=i:=p;lia) fun h' y=>⟨rfl,I.turned (t':=s.toks) (fun b o hb e=>y b o hb e) m f1 f l j⟩
 self:=fun _ _ _ _ _ st h=>Hj st h
def a50(K:Ac)(tl:TE):TI:=fun σ H R=>tl σ H fun x H1=>∃a,x=.ref a/\(∃xs,SqL K H1 a xs)/\R (Itl K a) H1
def iTup(K:Ac)(tl:TE):TI:=fun σ H R=>tl σ H fun x H1=>∃a,x=.ref a/\(∃xs,SqT K H1 a xs)/\R (Itt K a) H1
theorem a3l(hl:PE X l tl):PI X m l (a50 X.K tl):=by
 intro c s σ H R I h;refine thn (hl c s σ H _ I h) fun v f ⟨x,i,d,j,g⟩=>?_;obtain⟨a,e,⟨xs,hq⟩,q⟩:=g;subst e;cases j;obtain⟨its,k,p,hz⟩:=d.list hq;refine Cp p.isList ?_;refine⟨f.heap.objs.size,[f.heap.objs.size],_,_,i,rfl,d.kept (t':=f.toks) fun b o e=>Ab _ e,a6s a _,⟨_,An _ rfl,rfl,rfl⟩,fun b hb=>?_,q⟩;have e:b=f.heap.objs.size:=by simpa using hb
 subst e;exact d.fpOk (Ak _) (d.hok.fresh (Ak _))
theorem a8e(hl:PE X l tl):PI X m l (iTup X.K tl):=by
 intro c s σ H R I h;refine thn (hl c s σ H _ I h) fun v d ⟨x,i,f,j,g⟩=>?_;obtain⟨a,e,⟨xs,hq⟩,q⟩:=g;subst e;cases j;obtain⟨its,k,p,hz⟩:=f.tuple hq;refine Em (show d.heap.IsTuple a its.toArray from p) ?_;refine⟨d.heap.objs.size,[d.heap.objs.size],_,_,i,rfl,f.kept (t':=d.toks) fun b o e=>Ab _ e,a5c a _,⟨_,An _ rfl,rfl,rfl⟩,fun b hb=>?_,q⟩;have e:b=d.heap.objs.size:=by simpa using hb
 subst e;exact f.fpOk (Ak _) (f.hok.fresh (Ak _))
theorem a1j{lo:Int}(I:Inv X a σ H s)(g : -(2 ^ 62)<=lo)(j:lo<2 ^ 62)(d : -(2 ^ 62)<=hi)(h:hi<2 ^ 62)(q:R (Itr lo (hi - lo).toNat) H):wpAny (model X.prog X.w) X.A (pyIter (.ref s.heap.objs.size)) (PIE X a σ k R) E { s with heap:=s.heap.push { cls:=.type "range",data:=.fields #[.int lo t,.int hi u,.int 1 v] },toks:=tk }:=by
 refine Iw (JO ..) (small_one g j d h) ?_;have c:Inv X a σ H { s with heap:=s.heap.push { cls:=.type "range",data:=.fields #[.int lo t,.int hi u,.int 1 v] },toks:=tk }:=I.kept fun b o e=>Ab _ e;refine⟨(s.heap.push { cls:=.type "range",data:=.fields #[.int lo t,.int hi u,.int 1 v] }).objs.size,[(s.heap.push { cls:=.type "range",data:=.fields #[.int lo t,.int hi u,.int 1 v] }).objs.size],_,_,H,rfl,
  c.kept (t':=tk) fun b o e=>Ab _ e,a5a _ lo (hi - lo).toNat,?_,fun b hb=>?_,q⟩
 . have f:lo+((0:Nat):Int)*1=lo:=by simp
   have i:(((hi - lo).toNat:Nat):Int) - ((0:Nat):Int)=Co lo hi 1:=by rw[rangeSize_one];split<;>lia
   show IsRangeIter _ _ (lo+((0:Nat):Int)*1) ((((hi - lo).toNat:Nat):Int) - ((0:Nat):Int)) 1;rw[f,i];exact An _ rfl
 . have e:b=(s.heap.push { cls:=.type "range",data:=.fields #[.int lo t,.int hi u,.int 1 v] }).objs.size:=by simpa using hb
   subst e;exact c.fpOk (Ak _) (c.hok.fresh (Ak _))
def abc(ta:TA):TI:=fun σ H R=>ta σ H fun vs H1=>∃j:Int,vs=[.int j] /\ -(2 ^ 62)<=j/\j<2 ^ 62/\R (Itr 0 j.toNat) H1
def abd(ta:TA):TI:=fun σ H R=>ta σ H fun vs H1=>∃i j:Int,vs=[.int i,.int j]/\(-(2 ^ 62)<=i/\i<2 ^ 62 /\ -(2 ^ 62)<=j/\j<2 ^ 62)/\R (Itr i (j - i).toNat) H1
theorem a7u(i:Gl X "range")(hm:X.mg "range" = none)(ha:PA X [a] d)(hs:starEach [a] X.env=[(false,eval a X.env)]:=by rfl):PI X m (.Call (.Name "range" p) [a] [] pos) (abc d):=by
 intro b s σ H R I h;refine Call_ (nz I i hm boot_range (BL (thn (ha pos b s σ H _ I h) fun us l ⟨vs,n,f,g,c⟩=>?_) hs rfl));obtain⟨j,e,c,k,q⟩:=c;subst e;cases g with
 | cons r rr =>
  cases rr;obtain⟨t,rfl⟩:=r;exact call_range_1 (a1j f (by lia) (by lia) c k (by simpa using q))
theorem a6u(o:Gl X "range")(hm:X.mg "range" = none)(ha:PA X [a,b] g)(hs:starEach [a,b] X.env=[(false,eval a X.env),(false,eval b X.env)]:=by rfl)(d:starEach [b] X.env=[(false,eval b X.env)]:=by rfl):
 PI X w (.Call (.Name "range" p) [a,b] [] pos) (abd g):=by
 intro c s σ H R I h;refine Call_ (nz I o hm boot_range (BL (thn (ha pos c s σ H _ I h) fun us v ⟨vs,x,k,n,f⟩=>?_) (by rw[hs,d]) (by rw[d];rfl)));obtain⟨i,j,e,⟨f,u,l,m⟩,q⟩:=f;subst e;cases n with
 | cons r rr =>
  cases rr with
  | cons r' rr =>
   cases rr;obtain⟨t,rfl⟩:=r;obtain⟨t',rfl⟩:=r';exact call_range_2 (a1j k f u l m q)
def tFor(wi:TI)(g:TG)(tb:TS):TS:=fun D σ H=>wi σ H fun J H1=>∃W:Nat->Nat->St->Hp->Prop,(∃m,W 0 m σ H1)/\∀i m σ H,W i m σ H->
 (J.stop i H/\D.nx σ H)\/(J.go i H/\∃N:St->Hp->Prop,(∀σ' H',N σ' H'->∃m',m'<m/\W (i+1) m' σ' H')/\∀x H',J.yld i H x H'->g x σ H' fun σ2 H2=>tb { D with nx:=N,ct:=N,bk:=D.nx } σ2 H2)
def qk(fp:List Addr)(h:Heap):List (Addr×Obj):=fp.filterMap fun b=>(h.get? b).map fun o=>(b,o)
theorem me(hb:b∈a)(e:h.get? b=some o):(b,o)∈qk a h:=List.mem_filterMap.mpr ⟨b,hb,by rw[e];rfl⟩
theorem a80(hp:p∈qk c h):p.1∈c/\h.get? p.1=some p.2:=by
 obtain⟨b,hb,e⟩:=Iy.mp hp;cases q:h.get? b with
 | none=>rw[q] at e;cases e
 | some o =>
  rw[q] at e;have a:(b,o)=p:=A0 e;subst a;exact⟨hb,q⟩
theorem Inv.pinned(I:Inv X a σ H s)(i:∀b∈c,FpOk X a H b)(g:∀b∈c,∃o,s.heap.get? b=some o/\∀v,o.data≠.cell v):Inv X (a++qk c s.heap) σ H s :=
 I.pins_of fun p hp=>(Ap.mp hp).elim (fun z=>I.pin p (AF _ z)) fun z=>by
  obtain⟨hb,e⟩:=a80 z;obtain⟨h,f1,f2,_⟩:=i p.1 hb;obtain⟨o,f,d⟩:=g p.1 hb;rw[e] at f;cases f;exact⟨e,h,f1,f2,d⟩
theorem Inv.unpinned(I:Inv X (a++pl) σ H s):Inv X a σ H s:=I.pins_of fun p hp=>I.pin p (AF _ (AD _ hp))
theorem a7f(hp:PassesOwn (model X.prog X.w) X.A X.env X.xe)(hc:X.calm=true)(hi:PI X tg q wi)(hg:PG X tg g)(hb:PSs X body tb)(hs:∀x,foldedSetIterable q X.env x=pure x:=by intro _;rfl):PS X (.For tg q body [] pos) (tFor wi g tb):=by
 intro a s σ H D I h;refine wpAny_For (thn (hi a s σ H _ I h) fun v s1 h1=>thn h1 fun aa s2 h2=>?_) hs;obtain⟨it,z,Z,J,H2,e,I2,T,Q,f2,W,⟨m0,w0⟩,F⟩:=h2;subst e;have c:∀{H':Hp},(∀b∈z,H' b=none)->∀b∈z,FpOk X a H' b:=fun hn b hb=>⟨hn b hb,(f2 b hb).2⟩
 refine codeAny_forLoop_any (fun n s'=>∃i G H',Inv X a G H' s'/\Z i s'.heap/\(∀b∈z,H' b=none)/\W i n G H') ?_ m0 ⟨0,σ,H2,I2,Q,fun b hb=>(f2 b hb).1,w0⟩;rintro n s3 ⟨i,E,O,Y,M,C,w3⟩;rcases F i n E O w3 with⟨stop,qn⟩|⟨go,N,hN,step⟩
 . refine CZ hp (thn (T.done X rfl rfl rfl hc i a s3 E O X.xe Y (c C) M stop) fun r s4 ⟨U,I4⟩=>?_);subst U;exact EZ ⟨E,O,I4,qn⟩
 . refine CZ hp (thn (T.item X rfl rfl rfl hc i a s3 E O X.xe Y (c C) M go) fun r s4 ⟨u,U,h4⟩=>?_);subst U;refine CZ hp (thn h4 fun _ s5 ⟨x,H5,I5,r5,y5,y,P⟩=>?_);have R:=I5.pinned (c P) (T.obj _ _ y);refine CZ hp (thn (hg _ s5 E H5 x u _ R r5 (step x H5 y5)) fun _ s6 ⟨σ6,H6,I6,q6⟩=>?_);refine CZ hp (thn (hb _ s6 σ6 H6 _ I6 q6) fun f S t=>?_);have l:∀{j:St} {k:Hp},Inv X (a++qk z s5.heap) j k S->N j k->∃m,m<n/\∃i G H',Inv X a G H' S/\Z i S.heap/\(∀b∈z,H' b=none)/\W i m G H':=fun {j k} p L=>by
    obtain⟨m',hm,w7⟩:=hN j k L;refine⟨m',hm,i+1,j,k,p.unpinned,T.keep _ _ _ y fun b hb o e=>(p.pin (b,o) (AF _ (AF _ (me hb e)))).1,fun b hb=>?_,w7⟩;obtain⟨o,e,d⟩:=T.obj _ _ y b hb;exact (p.pin (b,o) (AF _ (AF _ (me hb e)))).2.1
   cases f with
   | next=>obtain⟨j,k,p,L⟩:=t;exact l p L
   | cont=>obtain⟨j,k,p,L⟩:=t;exact l p L
   | brk=>obtain⟨j,k,p,t⟩:=t;exact⟨j,k,p.unpinned,t⟩
   | ret v=>obtain⟨x7,j,k,p,r7,t⟩:=t;exact⟨x7,j,k,p.unpinned,r7,t⟩
theorem o9{K:Ac}{g:TG}{k:TS}{D:Ends}(b:Nat->St->Hp->Prop)(h0:b 0 σ H)(hl:∀i σ H,i<=xs.length->b i σ H->SqL K H a xs)(hs:∀i x σ H,xs[i]? = some x->b i σ H->g x σ H fun f d=>k { D with nx:=b (i+1),ct:=b (i+1),bk:=D.nx } f d)(hd:∀σ H,b xs.length σ H->D.nx σ H):
 ∃W:Nat->Nat->St->Hp->Prop,(∃m,W 0 m σ H)/\∀i m σ H,W i m σ H->
  ((Itl K a).stop i H/\D.nx σ H)\/((Itl K a).go i H/\∃N:St->Hp->Prop,(∀h H',N h H'->∃j,j<m/\W (i+1) j h H')/\∀x H',(Itl K a).yld i H x H'->g x σ H' fun f d=>k { D with nx:=N,ct:=N,bk:=D.nx } f d):=by
 refine⟨fun i m σ H=>m=xs.length - i/\i<=xs.length/\b i σ H,⟨xs.length,by simp,AH _,h0⟩,?_⟩;rintro i m σ H ⟨rfl,hi,p⟩;have q:=hl i σ H hi p;by_cases c:i<xs.length
 . refine .inr ⟨⟨xs,xs[i],q,by simp[c]⟩,b (i+1),fun h H' l=>⟨xs.length - (i+1),by lia,rfl,c,l⟩,fun x H' y=>?_⟩;obtain⟨e,y⟩:=y;subst e;exact hs i x σ _ (y xs q) p
 . have e:i=xs.length:=by lia
   subst e;exact .inl ⟨⟨xs,q,Ak _⟩,hd σ H p⟩
theorem ad3{K:Ac}{g:TG}{k:TS}{D:Ends}(b:Nat->St->Hp->Prop)(h0:b 0 σ H)(hl:∀i σ H,i<=xs.length->b i σ H->SqT K H a xs)(hs:∀i x σ H,xs[i]? = some x->b i σ H->g x σ H fun f d=>k { D with nx:=b (i+1),ct:=b (i+1),bk:=D.nx } f d)(hd:∀σ H,b xs.length σ H->D.nx σ H):
 ∃W:Nat->Nat->St->Hp->Prop,(∃m,W 0 m σ H)/\∀i m σ H,W i m σ H->
  ((Itt K a).stop i H/\D.nx σ H)\/((Itt K a).go i H/\∃N:St->Hp->Prop,(∀h H',N h H'->∃j,j<m/\W (i+1) j h H')/\∀x H',(Itt K a).yld i H x H'->g x σ H' fun f d=>k { D with nx:=N,ct:=N,bk:=D.nx } f d):=by
 refine⟨fun i m σ H=>m=xs.length - i/\i<=xs.length/\b i σ H,⟨xs.length,by simp,AH _,h0⟩,?_⟩;rintro i m σ H ⟨rfl,hi,p⟩;have q:=hl i σ H hi p;by_cases c:i<xs.length
 . refine .inr ⟨⟨xs,xs[i],q,by simp[c]⟩,b (i+1),fun h H' l=>⟨xs.length - (i+1),by lia,rfl,c,l⟩,fun x H' y=>?_⟩;obtain⟨e,y⟩:=y;subst e;exact hs i x σ _ (y xs q) p
 . have e:i=xs.length:=by lia
   subst e;exact .inl ⟨⟨xs,q,Ak _⟩,hd σ H p⟩
theorem ku{lo:Int}{g:TG}{j:TS}{D:Ends}(b:Nat->St->Hp->Prop)(h0:b 0 σ H)(hs:∀i σ H,i<n->b i σ H->g (.int (lo+i)) σ H fun d c=>j { D with nx:=b (i+1),ct:=b (i+1),bk:=D.nx } d c)(hd:∀σ H,b n σ H->D.nx σ H):
 ∃W:Nat->Nat->St->Hp->Prop,(∃m,W 0 m σ H)/\∀i m σ H,W i m σ H->
  ((Itr lo n).stop i H/\D.nx σ H)\/((Itr lo n).go i H/\∃N:St->Hp->Prop,(∀f H',N f H'->∃h,h<m/\W (i+1) h f H')/\∀x H',(Itr lo n).yld i H x H'->g x σ H' fun d c=>j { D with nx:=N,ct:=N,bk:=D.nx } d c):=by
 refine⟨fun i m σ H=>m=n - i/\i<=n/\b i σ H,⟨n,by simp,AH _,h0⟩,?_⟩;rintro i m σ H ⟨rfl,hi,p⟩;by_cases a:i<n
 . refine .inr ⟨a,b (i+1),fun f H' k=>⟨n - (i+1),by lia,rfl,a,k⟩,fun x H' y=>?_⟩;obtain⟨e,y⟩:=y;subst e y;exact hs i σ _ a p
 . have e:i=n:=by lia
   subst e;exact .inl ⟨Ak _,hd σ H p⟩
abbrev R2:=V->V->Hp->VK->Prop
def OpR(X:Cx)(f:Value->Value->Sem Value)(r:R2):Prop :=
 ∀(pins:List (Addr×Obj)) (s:Shared) (σ:St) (H:Hp) (x y:V) (v u:Value) (Q:VK),Inv X pins σ H s->RelV x v->RelV y u->r x y H Q->
   wpAny (model X.prog X.w) X.A (f v u) (EP X pins σ Q) X.xe s
def UnR(X:Cx)(f:Value->Sem Value)(r:V->Hp->VK->Prop):Prop :=
 ∀(pins:List (Addr×Obj)) (s:Shared) (σ:St) (H:Hp) (x:V) (v:Value) (Q:VK),Inv X pins σ H s->RelV x v->r x H Q->
   wpAny (model X.prog X.w) X.A (f v) (EP X pins σ Q) X.xe s
def jz(X:Cx)(f:Value)(r:List V->Hp->VK->Prop):Prop :=
 ∀(pins:List (Addr×Obj)) (s:Shared) (σ:St) (H:Hp) (xs:List V) (us:List Value) (Q:VK),Inv X pins σ H s->Vals xs us->r xs H Q->
   wpAny (model X.prog X.w) X.A (call f us) (EP X pins σ Q) X.xe s
def tOp(r:R2)(ta tb:TE):TE:=fun σ H Q=>ta σ H fun x H1=>tb σ H1 fun y H2=>r x y H2 Q
def tUn(r:V->Hp->VK->Prop)(ta:TE):TE:=fun σ H Q=>ta σ H fun x H1=>r x H1 Q
def rI(C:Int->Int->Prop)(g:Int->Int->V):R2:=fun x y H Q=>∃i j,x=.int i/\y=.int j/\C i j/\Q (g i j) H
def rI0(g:Int->Int->V):R2:=fun x y H Q=>∃i j,x=.int i/\y=.int j/\Q (g i j) H
def rU(g:Int->V):V->Hp->VK->Prop:=fun x H Q=>∃i,x=.int i/\Q (g i) H
theorem binT(ha:PE X a j)(hb:PE X b q){R:V->V->Hp->Prop}(I:Inv X c σ H s)(h:j σ H fun x g=>q σ g fun y d=>R x y d){f:Value->Value->Sem Value}(z:∀v u e x y d,Inv X c σ d e->RelV x v->RelV y u->R x y d->wpAny (model X.prog X.w) X.A (f v u) Q X.xe e):
 wpAny (model X.prog X.w) X.A (eval a X.env) (fun v k=>wpAny (model X.prog X.w) X.A (eval b X.env) (fun u i=>wpAny (model X.prog X.w) X.A (f v u) Q X.xe i) X.xe k) X.xe s:=by
 refine thn (ha c s σ H _ I h) fun v m ⟨x,g,p,r,l⟩=>?_;refine thn (hb c m σ g _ p l) fun u e ⟨y,d,n,o,t⟩=>?_;exact z v u e x y d n r o t
theorem abl(f:OpR X (binaryOp op) r)(ha:PE X a e)(hb:PE X b j):PE X (.BinOp a op b pos) (tOp r e j):=by
 intro c s σ H Q I h;exact wpAny_BinOp (binT ha hb I h fun v u l x y i g d k q=>f c l σ i x y v u Q g d k q)
theorem afl(f:UnR X (unaryOp op) r)(ha:PE X a c):PE X (.UnaryOp op a pos) (tUn r c):=by
 intro b s σ H Q I h;exact UnaryOp_ (thn (ha b s σ H _ I h) fun v g ⟨x,i,e,j,d⟩=>f b g σ i x v Q e j d)
theorem opI{g:Int->Int->Int}(a:∀(i j:Int) (t u:Tok) (s:Shared) (Q:Value->Shared->Prop) (E:Value->Shared->Prop),C i j->Q (.int (g i j) s.toks) { s with toks:=s.toks+1 }->wpAny (model X.prog X.w) X.A (f (.int i t) (.int j u)) Q E s):
 OpR X f (rI C fun i j=>.int (g i j)):=by
 intro b s σ H x y v u Q I c d h;obtain⟨i,j,rfl,rfl,hc,q⟩:=h;obtain⟨t,rfl⟩:=c;obtain⟨t',rfl⟩:=d;exact a i j t t' s _ _ hc ⟨.int (g i j),H,I.tok _,⟨_,rfl⟩,q⟩
theorem opI0{g:Int->Int->Int}(a:∀(i j:Int) (t u:Tok) (s:Shared) (Q:Value->Shared->Prop) (E:Value->Shared->Prop),Q (.int (g i j) s.toks) { s with toks:=s.toks+1 }->wpAny (model X.prog X.w) X.A (f (.int i t) (.int j u)) Q E s):
 OpR X f (rI0 fun i j=>.int (g i j)):=by
 intro b s σ H x y v u Q I c d h;obtain⟨i,j,rfl,rfl,q⟩:=h;obtain⟨t,rfl⟩:=c;obtain⟨t',rfl⟩:=d;exact a i j t t' s _ _ ⟨.int (g i j),H,I.tok _,⟨_,rfl⟩,q⟩
theorem opB0{g:Int->Int->Bool}(a:∀(i j:Int) (t u:Tok) (s:Shared) (Q:Value->Shared->Prop) (E:Value->Shared->Prop),Q (.bool (g i j)) s->wpAny (model X.prog X.w) X.A (f (.int i t) (.int j u)) Q E s):
 OpR X f (rI0 fun i j=>.bl (g i j)):=by
 intro b s σ H x y v u Q I c d h;obtain⟨i,j,rfl,rfl,q⟩:=h;obtain⟨t,rfl⟩:=c;obtain⟨t',rfl⟩:=d;exact a i j t t' s _ _ ⟨.bl (g i j),H,I,rfl,q⟩
def CDiv(i j:Int):Prop:=0<j/\j<1073741824
def CPow(i j:Int):Prop:=0<=j/\j<=1000000/\i.natAbs<2 ^ 64
def CMul(i j:Int):Prop:=(-(2 ^ 64)<i/\i<2 ^ 64)\/(-(2 ^ 64)<j/\j<2 ^ 64)
theorem CMul.ok(h:CMul i j):IntMulOk i j:=by
 rcases h with⟨b,a⟩|⟨b,a⟩
 . exact .of_left (intBits_le_64 b a)
 . exact .of_right (intBits_le_64 b a)
theorem ij:OpR X (binaryOp .Add) (rI0 fun i j=>.int (i+j)):=opI0 fun _ _ _ _ _ _ _ q=>add_int q
theorem a6y:OpR X (binaryOp .Sub) (rI0 fun i j=>.int (i - j)):=opI0 fun _ _ _ _ _ _ _ q=>sub_int q
theorem qz:OpR X (binaryOp .Mult) (rI CMul fun i j=>.int (i*j)):=opI fun _ _ _ _ _ _ _ hc q=>mul_int q hc.ok
theorem lq:OpR X (binaryOp .FloorDiv) (rI CDiv fun i j=>.int (i / j)):=opI fun i j _ _ _ _ _ hc q=>by
 have b:(0:Int)<j:=hc.1;have a:j<1073741824:=hc.2;exact floordiv_int (by lia) (by rw[FG i (by lia)];exact q) (.inl (PyProof.noPylong_small (by lia)))
theorem jo:OpR X (binaryOp .Mod) (rI (fun _ j=>0<j) fun i j=>.int (i % j)):=opI fun i j _ _ _ _ _ hc q=>by
 have a:(0:Int)<j:=hc;exact mod_int' (by lia) (by rw[Int.fmod_eq_emod_of_nonneg i (by lia)];exact q)
theorem vj:OpR X (binaryOp .Pow) (rI CPow fun i j=>.int (i ^ j.toNat)):=opI fun _ _ _ _ _ _ _ hc q=>pow_int_small hc.1 hc.2.1 hc.2.2 q
theorem unI{g:Int->Int}(a:∀(i:Int) (t:Tok) (s:Shared) (Q:Value->Shared->Prop) (E:Value->Shared->Prop),Q (.int (g i) s.toks) { s with toks:=s.toks+1 }->wpAny (model X.prog X.w) X.A (f (.int i t)) Q E s):
 UnR X f (rU fun i=>.int (g i)):=by
 intro b s σ H x v Q I c h;obtain⟨i,rfl,q⟩:=h;obtain⟨t,rfl⟩:=c;exact a i t s _ _ ⟨.int (g i),H,I.tok _,⟨_,rfl⟩,q⟩
theorem jl:UnR X (unaryOp .USub) (rU fun i=>.int (-i)):=unI fun _ _ _ _ _ q=>neg_int q
def scal:V->V->Bool
 | .non,.non=>true|.non,.int _=>true|.int _,.non=>true|.non,.bl _=>true|.bl _,.non=>true|.non,.str _=>true|.str _,.non=>true
 | .int _,.int _=>true|.bl _,.bl _=>true|.str _,.str _=>true|.byt _,.byt _=>true
 | .int _,.str _=>true|.str _,.int _=>true|.bl _,.str _=>true|.str _,.bl _=>true
 | _,_=>false
def rEq:R2:=fun x y H Q=>scal x y=true/\Q (.bl (decide (x=y))) H
def rNe:R2:=fun x y H Q=>scal x y=true/\Q (.bl (!decide (x=y))) H
theorem a49:decide (V.int i=V.int j)=(i == j):=by
 rw[Ct];simp
theorem a88:decide (V.bl i=V.bl j)=(i == j):=by
 rw[Ct];simp
theorem a4m:decide (V.str i=V.str j)=(i == j):=by
 rw[Ct];simp
theorem a3h:decide (V.byt i=V.byt j)=(i.toList == j.toList):=by
 rw[Ct];cases i;cases j;simp
theorem io(I:Inv X a σ H s)(q:Q (.bl k) H)(e:k=b):EP X a σ Q (.bool b) s:=by
 subst e;exact⟨.bl k,H,I,rfl,q⟩
theorem ib:OpR X (compareOp .Eq) rEq:=by
 intro c s σ H x y v u Q I b a h;obtain⟨hs,q⟩:=h;cases x with
 | non =>
  cases b;cases y with
  | non=>cases a;exact PySem.EqNone.eq_none_none (io I q (by simp))
  | bl j=>cases a;exact PySem.EqNone.eq_none_bool (io I q (by simp))
  | int j=>obtain⟨t',rfl⟩:=a;exact PySem.EqNone.eq_none_int (io I q (by simp))
  | str j=>obtain⟨t',rfl⟩:=a;exact PySem.EqNone.eq_none_str (io I q (by simp))
  | _=>exact absurd (show false=true from hs) Ai
 | bl i =>
  cases b;cases y with
  | non=>cases a;exact PySem.EqNone.eq_bool_none (io I q (by simp))
  | bl j=>cases a;exact eq_bool (io I q a88)
  | str j=>obtain⟨t',rfl⟩:=a;exact PySem.EqMixed.eq_bool_str (io I q (by simp))
  | _=>exact absurd (show false=true from hs) Ai
 | int i =>
  obtain⟨t,rfl⟩:=b;cases y with
  | non=>cases a;exact PySem.EqNone.eq_int_none (io I q (by simp))
  | int j=>obtain⟨t',rfl⟩:=a;exact eq_int (io I q a49)
  | str j=>obtain⟨t',rfl⟩:=a;exact PySem.EqMixed.eq_int_str (io I q (by simp))
  | _=>exact absurd (show false=true from hs) Ai
 | str i =>
  obtain⟨t,rfl⟩:=b;cases y with
  | non=>cases a;exact PySem.EqNone.eq_str_none (io I q (by simp))
  | bl j=>cases a;exact PySem.EqMixed.eq_str_bool (io I q (by simp))
  | int j=>obtain⟨t',rfl⟩:=a;exact PySem.EqMixed.eq_str_int (io I q (by simp))
  | str j=>obtain⟨t',rfl⟩:=a;exact eq_str (io I q a4m)
  | _=>exact absurd (show false=true from hs) Ai
 | byt i =>
  obtain⟨t,rfl⟩:=b;cases y with
  | byt j=>obtain⟨t',rfl⟩:=a;exact PySem.W.eq_bytes (io I q a3h)
  | _=>exact absurd (show false=true from hs) Ai
 | _=>cases y<;>exact absurd (show false=true from hs) Ai
theorem ri:OpR X (compareOp .NotEq) rNe:=by
 intro c s σ H x y v u Q I b a h;obtain⟨hs,q⟩:=h;cases x with
 | non =>
  cases b;cases y with
  | non=>cases a;exact PySem.EqNone.ne_none_none (io I q (by simp))
  | bl j=>cases a;exact PySem.EqNone.ne_none_bool (io I q (by simp))
  | int j=>obtain⟨t',rfl⟩:=a;exact PySem.EqNone.ne_none_int (io I q (by simp))
  | str j=>obtain⟨t',rfl⟩:=a;exact PySem.EqNone.ne_none_str (io I q (by simp))
  | _=>exact absurd (show false=true from hs) Ai
 | bl i =>
  cases b;cases y with
  | non=>cases a;exact PySem.EqNone.ne_bool_none (io I q (by simp))
  | bl j=>cases a;exact ne_bool (io I q (congrArg not a88))
  | str j=>obtain⟨t',rfl⟩:=a;exact PySem.EqMixed.ne_bool_str (io I q (by simp))
  | _=>exact absurd (show false=true from hs) Ai
 | int i =>
  obtain⟨t,rfl⟩:=b;cases y with
  | non=>cases a;exact PySem.EqNone.ne_int_none (io I q (by simp))
  | int j=>obtain⟨t',rfl⟩:=a;exact ne_int (io I q (congrArg not a49))
  | str j=>obtain⟨t',rfl⟩:=a;exact PySem.EqMixed.ne_int_str (io I q (by simp))
  | _=>exact absurd (show false=true from hs) Ai
 | str i =>
  obtain⟨t,rfl⟩:=b;cases y with
  | non=>cases a;exact PySem.EqNone.ne_str_none (io I q (by simp))
  | bl j=>cases a;exact PySem.EqMixed.ne_str_bool (io I q (by simp))
  | int j=>obtain⟨t',rfl⟩:=a;exact PySem.EqMixed.ne_str_int (io I q (by simp))
  | str j=>obtain⟨t',rfl⟩:=a;exact ne_str (io I q (congrArg not a4m))
  | _=>exact absurd (show false=true from hs) Ai
 | byt i =>
  obtain⟨t,rfl⟩:=b;cases y with
  | byt j=>obtain⟨t',rfl⟩:=a;exact PySem.W.ne_bytes (io I q (congrArg not a3h))
  | _=>exact absurd (show false=true from hs) Ai
 | _=>cases y<;>exact absurd (show false=true from hs) Ai
theorem qa:OpR X (compareOp .Lt) (rI0 fun i j=>.bl (decide (i<j))):=opB0 fun _ _ _ _ _ _ _ q=>lt_int q
theorem wp:OpR X (compareOp .Gt) (rI0 fun i j=>.bl (decide (j<i))):=opB0 fun _ _ _ _ _ _ _ q=>gt_int q
theorem a7a:OpR X (compareOp .In) (fun x y H Q=>∃i j,x=.str i/\y=.str j/\Q (.bl (!(Builtin.Str.occurrences j i 0 j.length 1).isEmpty)) H):=by
 intro a s σ H x y v u Q I b c h;obtain⟨i,j,rfl,rfl,q⟩:=h;obtain⟨t,rfl⟩:=b;obtain⟨t',rfl⟩:=c;exact in_str (io I q rfl)
theorem a2i:OpR X (compareOp .Is) (fun x y H Q=>y=.non/\Q (.bl (decide (x=.non))) H):=by
 intro a s σ H x y v u Q I b c h;obtain⟨rfl,q⟩:=h;cases c;refine is_none_gen (io I q ?_);cases x<;>first
  | (cases b;rfl)
  | (obtain⟨t,rfl⟩:=b;rfl)
theorem adg:OpR X (compareOp .IsNot) (fun x y H Q=>y=.non/\Q (.bl (!decide (x=.non))) H):=by
 intro a s σ H x y v u Q I b c h;obtain⟨rfl,q⟩:=h;cases c;refine isnot_none_gen (io I q ?_);cases x<;>first
  | (cases b;rfl)
  | (obtain⟨t,rfl⟩:=b;rfl)
theorem gn(b:Expr)(h:op≠.In:=by decide)(d:op≠.NotIn:=by decide):behindInMarks op b=false:=by
 have c:(op == CmpOp.In)=false:=by cases op<;>first|rfl|exact absurd rfl h
 have a:(op == CmpOp.NotIn)=false:=by cases op<;>first|rfl|exact absurd rfl d
 cases b<;>simp[behindInMarks,c,a]
theorem we(f:OpR X (compareOp op) r)(ha:PE X a e)(hb:PE X b j)(hm:behindInMarks op b=false):PE X (.Compare a [op] [b] pos) (tOp r e j):=by
 intro c s σ H Q I h;exact wpAny_Compare1 (binT ha hb I h fun v u l x y i g d k q=>f c l σ i x y v u Q g d k q) hm
def u5(t:TE):TT:=fun σ H Q=>t σ H fun x H'=>∃k,x=.bl k/\Q k H'
theorem tf(n:OpR X (compareOp op) r)(ha:PE X a f)(hb:PE X b o)(hm:behindInMarks op b=false):PT X (.Compare a [op] [b] pos) (u5 (tOp r f o)):=by
 intro d s σ H Q I h;refine Hy (thn (ha d s σ H _ I h) fun v i ⟨x,t,E,w,g⟩=>thn (hb d i σ t _ E g) fun u C ⟨y,F,j,l,A⟩ =>
  thn (n d C σ F x y v u _ j w l A) fun c G ⟨z,p,q,D,k,e,m⟩=>?_) hm
 subst e;cases D;exact BY ⟨p,q,m⟩
def a6o(r r':R2)(ta tb tc:TE):TE:=fun σ H Q=>ta σ H fun x H1=>tb σ H1 fun y H2=>r x y H2 fun z H3=>∃k,z=.bl k/\
 (if k=true then tc σ H3 fun w' H4=>r' y w' H4 Q else Q (.bl false) H3)
theorem aa0(F:OpR X (compareOp op) r)(i:OpR X (compareOp g) r')(ha:PE X a w)(hb:PE X b G)(hc:PE X c T)(hm:lastMarks [op,g] [b,c]=false:=by with_unfolding_all rfl):PT X (.Compare a [op,g] [b,c] pos) (u5 (a6o r r' w G T)):=by
 intro f s σ H Q I h;refine isTrue_chain (thn (ha f s σ H _ I h) fun v C ⟨x,L,U,M,A⟩=>test_link (thn (hb f C σ L _ U A) fun u P ⟨y,Y,D,j,N⟩ =>
  thn (F f P σ Y x y v u _ D M j N) fun d q ⟨z,m,n,S,k,e,l⟩=>?_)) hm
 subst e;cases S;refine BY ?_;cases k with
 | false =>
  obtain⟨k',e',q'⟩:=l;cases e';exact ite_ff ⟨m,n,q'⟩
 | true =>
  refine ite_tt (test_last (thn (hc f q σ m _ n l) fun E O ⟨J,H4,R,r4,W⟩=>thn (i f O σ H4 y J u E _ R j r4 W) fun d' s5 ⟨z2,o,Z,t,k2,e2,p⟩=>?_));subst e2;cases t;exact BY ⟨o,Z,p⟩
theorem tu:(sizeLine:Nat)<2 ^ 63:=by rw[Fy];decide
theorem nk:OpR X (binaryOp .Add) (fun x y H Q=>∃i j,x=.str i/\y=.str j/\i.length+j.length<=sizeLine/\Q (.str (i++j)) H):=by
 intro a s σ H x y v u Q I b c h;obtain⟨i,j,rfl,rfl,hz,q⟩:=h;obtain⟨t,rfl⟩:=b;obtain⟨t',rfl⟩:=c;exact add_str (fun t' tk=>⟨.str (i++j),H,I.tok _,⟨_,rfl⟩,q⟩) hz
theorem rg(r:Vals [x] us):∃u,us=[u]/\RelV x u:=by
 cases r with
 | cons r1 r2=>cases r2;exact⟨_,rfl,r1⟩
structure ObjM(h:Heap)(x dx C:Addr)(mA:Str->Option Value):Prop where
 obj:h.get? x=some (CC C dx)
 ns:h.Ns1 dx mA
 ne:dx≠x
theorem a7d{h:Heap}(n:h.Ns1 dx f):∃od,h.get? dx=some od/\∀name,Fp name od=some (f name):=by
 obtain⟨o,es,ep,c,hd,d,_,hm⟩:=n;refine⟨o,c,fun name=>?_⟩;have e:=hm name;unfold nsFind findBy at e;rw[<- Iz] at e;unfold Fp;rw[hd];dsimp only;split
 . rename_i y q;rw[q] at e;exact congrArg some e
 . rename_i q;rw[q] at e;have a:es.toList.any (·.refKey)=false:=by
    rw[List.any_eq_false];intro y g;obtain⟨z,t,b⟩:=d y (Array.mem_toList_iff.mp g);simp[DictEntry.refKey,b]
   have i:¬ es.toList.any (·.refKey)=true:=by rw[a];exact Ai
   rw[if_neg i];exact congrArg some e
theorem ObjM.look(I:ObjM h x dx C a):∃od,PySem.W.InstAt h x (CC C dx) C (some od)/\∀name,Fp name od=some (a name) :=
 let ⟨od,ho,hl⟩:=a7d I.ns
 ⟨od,⟨I.obj,rfl,rfl,ho⟩,hl⟩
theorem abq{K:Ac}(X:K.In s.heap)(I:ObjM s.heap x dx C e)(f:Ds K C name=true)(d:DL K C=true)(ha:AG K (.ref C) name=some none)(c:e name=some v)(a:Jg v=true)(h:Q v { s with toks:=s.toks+1 }):
 wpAny (model prog w) A (getAttr (.ref x) name b) Q E s:=by
 obtain⟨od,J,hl⟩:=I.look;exact PySem.W.get_value X J (Fl f).1 (PySem.W.findObj_own d ha rfl (by rw[hl,c])) a h
theorem a8t{K:Ac}(X:K.In s.heap)(I:ObjM s.heap x dx C c)(a:Ds K C name=true)(d:AG K (.ref C) name=some (some (.ref f)))(ht:BA K (.ref f)=true)(b:c name=none)(h:Q (.ref f,[.ref x]) s):
 wpAny (model prog w) A (getMethod (.ref x) name pl) Q E s:=by
 obtain⟨od,J,hl⟩:=I.look;exact PySem.W.method_fn X J (Fl a).1 (Fl a).2 d (beq_iff_eq.mp ht) (by show (Fp name od).map (·.isSome)=some false;rw[hl,b];rfl) h
theorem acg{K:Ac}(X:K.In s.heap)(I:ObjM s.heap x dx C j)(hs:AG K (.ref C) "__setattr__" = some (some (.builtin "object.__setattr__")))(hp:EF K C=true)(ht:Hb K C name=some none)(l:DL K C=true)(o:Iv j ns)(hsz:ns.length<=sizeLine)(h:∀h',ObjM h' x dx C (fun y=>if y=name then some v else j y)->Cu dx s.heap h'->Q () { s with heap:=h',toks:=s.toks+2 }):
 wpAny (model prog w) A (setAttr (.ref x) name v) Q E s:=by
 obtain⟨od,J,hl⟩:=I.look;refine PySem.W.set_plain X J hs (PySem.W.osa_open (s:={ s with toks:=s.toks+1 }) (r:=none) X J hp ht fun b=>?_);obtain⟨cd,hc,f⟩:=PySem.W.any_some l;have k:s.heap.get? x=some ⟨.ref C,some dx,.plain,#[]⟩:=I.obj;refine Aa (Ae (Aa (Aa (wpAny_loadPart k (Aa (PySem.W.Looks.here (s:={ s with toks:=s.toks+1 }) (PySem.W.looks_clsIn X hc) ?_))))));rw[f];refine Ae (a:=some dx) (Aa (Ae (Aa ?_)));refine wpAny_nsSet1 (s:={ s with toks:=s.toks+1 }) I.ns fun h' c d=>?_;obtain⟨p,m,n,g,e,i⟩:=c.count (PySem.Within.cons name v o);refine Aa (wpAny_lookBehind g (by rw[e];exact pastItsLine_dict (Ax i (by rw[AC];lia))) ?_);exact Ae (h _ ⟨(d.2 _ (AL I.ne)).trans I.obj,c,I.ne⟩ d)
theorem a96{K:Ac}(X:K.In s.heap)(hm:Fb K C=true)(hi:AG K (.ref C) "__init__" = some (some (.ref f)))(b:PySem.W.typeIn K (.ref f)=some (.type "function"))(h:codeAny (model prog w) (A.under (.builtin "type.__call__" ⟨.ref C::vs,a⟩)) (.call (.ref f) ⟨.ref (s.heap.objs.size+1)::vs,a⟩) (PySem.W.InitBack (s.heap.objs.size+1) R)
 { s with heap:=(s.heap.push BZ).push (CC C s.heap.objs.size) }):
 codeAny (model prog w) A (.call (.ref C) ⟨vs,a⟩) R s:=by
 obtain⟨c,g,d,t,os⟩:=s;exact PySem.W.make_core (PySem.W.makes_of X hm) (PySem.W.looks_findIn X hi) (fun self=>PySem.W.bind_fn X self b) (.inl rfl) h
def putF(f:Str)(v:V):List (Str×V)->List (Str×V)
 | []=>[(f,v)]
 | (g,x)::r=>if g=f then (g,v)::r else (g,x)::putF f v r
theorem gf(f g:Str)(v:V):∀fs:List (Str×V),(putF f v fs).lookup g=if g=f then some v else fs.lookup g
 | []=>by
  show Ee g [(f,v)]=_;by_cases h:g=f
  . have hb:(g == f)=true:=beq_iff_eq.mpr h;simp only[Ee,hb,if_pos h]
  . have hb:(g == f)=false:=beq_eq_false_iff_ne.mpr h;simp only[Ee,hb,if_neg h]
 | (k,x)::r=>by
  have b:=gf f g v r;rw[show putF f v ((k,x)::r)=(if k=f then (k,v)::r else (k,x)::putF f v r) from rfl];by_cases a:k=f
  . rw[if_pos a];by_cases h:g=k
    . have hb:(g == k)=true:=beq_iff_eq.mpr h;simp only[Ee,hb,if_pos (h.trans a)]
    . have hb:(g == k)=false:=beq_eq_false_iff_ne.mpr h;simp only[Ee,hb,if_neg (fun e:g=f=>h (e.trans a.symm))]
  . rw[if_neg a];by_cases h:g=k
    . have hb:(g == k)=true:=beq_iff_eq.mpr h;simp only[Ee,hb,if_neg (fun e:g=f=>a (h.symm.trans e))]
    . have hb:(g == k)=false:=beq_eq_false_iff_ne.mpr h;simp only[Ee,hb];exact b
theorem v9(f:Str)(v:V):∀fs:List (Str×V),f∈(putF f v fs).map (·.1)/\∀g,g∈fs.map (·.1)->g∈(putF f v fs).map (·.1)
 | []=>⟨by simp[putF],fun g h=>by simp at h⟩
 | (k,x)::r=>by
  obtain⟨b,c⟩:=v9 f v r;rw[show putF f v ((k,x)::r)=(if k=f then (k,v)::r else (k,x)::putF f v r) from rfl];by_cases a:k=f
  . rw[if_pos a];subst a;exact⟨by simp,fun g h=>by simpa using h⟩
  . rw[if_neg a];refine⟨?_,fun g h=>?_⟩
    . rw[Ar];exact Al _ b
    . rw[Ar] at h |-;rcases Ah.mp h with e|e
      . exact Ah.mpr (.inl e)
      . exact Al _ (c g e)
theorem ir(f:Str)(v:V):∀fs:List (Str×V),(putF f v fs).length<=fs.length+1
 | []=>by simp[putF]
 | (k,x)::r=>by
  have b:=ir f v r;rw[show putF f v ((k,x)::r)=(if k=f then (k,v)::r else (k,x)::putF f v r) from rfl];by_cases a:k=f
  . rw[if_pos a,AC,AC];lia
  . rw[if_neg a,AC,AC];lia
theorem RelO.some_of(r:RelO (some v) o):∃u,o=some u/\RelV v u:=by
 cases o with
 | none=>exact (show False from r).elim
 | some u=>exact⟨u,rfl,r⟩
theorem RelO.none_of(r:RelO none o):o=none:=by
 cases o with
 | none=>rfl
 | some u=>exact (show False from r).elim
theorem a64(r:RelV v u):Jg u=true:=by
 cases v with
 | non=>cases (show u=Value.none from r);rfl
 | bl b=>cases (show u=Value.bool b from r);rfl
 | int i=>obtain⟨t,e⟩:=(show ∃t,u=Value.int i t from r);cases e;rfl
 | str x=>obtain⟨t,e⟩:=(show ∃t,u=Value.str x t from r);cases e;rfl
 | byt b=>obtain⟨t,e⟩:=(show ∃t,u=Value.bytes b t from r);cases e;rfl
 | flt b=>obtain⟨t,e⟩:=(show ∃t,u=Value.float b t from r);cases e;rfl
 | ref a=>cases (show u=Value.ref a from r);rfl
 | ty n=>cases (show u=Value.type n from r);rfl
theorem zy(hok:HOk P w H h)(e:H a=some (.ins C dx fs)):∃b,ObjM h a dx C b/\(∀f,RelO (fs.lookup f) (b f))/\Iv b (fs.map (·.1))/\fs.length<=1000/\H dx=some (.own a):=by
 obtain⟨d,z,ne,ob,b,n,r,q⟩:=(show ObjOk P w H h a (.ins C dx fs) from hok a _ e)
 exact⟨b,⟨ob,n,ne⟩,r,q,z,d⟩
structure Cls(K:Ac)(C:Addr):Prop where
 pg:Ds K C JC=true
 hd:DL K C=true
 po:EF K C=true
 sa:AG K (.ref C) "__setattr__" = some (some (.builtin "object.__setattr__"))
theorem Cls.get{K:Ac}(c:Cls K C)(f:Str):Ds K C f=true:=c.pg
def NoAttr(K:Ac)(C:Addr)(f:Str):Prop:=AG K (.ref C) f=some none
theorem NoAttr.taker{K:Ac}(n:NoAttr K C f):Hb K C f=some none:=by
 unfold Hb;rw[show AG K (.ref C) f=some none from n];rfl
structure Con(K:Ac)(C:Addr)(f:Str)(v:V)(u:Value):Prop where
 at_:AG K (.ref C) f=some (some u)
 rel:RelV v u
 get:PySem.W.specialIn K u "__get__" = some none
 cp:PySem.W.copiedNames.contains f=false
structure Meth(K:Ac)(C:Addr)(m:Str)(f:Addr):Prop where
 at_:AG K (.ref C) m=some (some (.ref f))
 fn:BA K (.ref f)=true
 kp:CA K (.ref f)=true
theorem a59(I:Inv X d σ H s)(e:H a=some (.ins C dx fs))(c:Cls X.K C)(n:NoAttr X.K C f)(l:fs.lookup f=some v)(h:∀u s',Inv X d σ H s'->RelV v u->Q u s'):wpAny (model X.prog X.w) A (getAttr (.ref a) f b) Q E s:=by
 obtain⟨j,O,r,_,_,_⟩:=zy I.hok e;obtain⟨u,i,g⟩:=RelO.some_of (v:=v) (o:=j f) (by rw[<- l];exact r f);exact abq I.kIn O (c.get f) c.hd n i (a64 g) (h u _ (I.tok _) g)
theorem yz(I:Inv X b σ H s)(e:H a=some (.ins C dx fs))(c:Cls X.K C)(k:Meth X.K C m g)(l:fs.lookup m=none)(h:Q (.ref g,[.ref a]) s):wpAny (model X.prog X.w) A (getMethod (.ref a) m pl) Q E s:=by
 obtain⟨d,O,r,_,_,_⟩:=zy I.hok e;have hn:d m=none:=RelO.none_of (by rw[<- l];exact r m);exact a8t I.kIn O (c.get m) k.at_ k.fn hn h
theorem a4t(I:Inv X d σ H s)(e:H a=some (.ins C dx fs))(c:Cls X.K C)(n:NoAttr X.K C f)(hl:fs.length<1000)(t:RelV y u)(h:∀s',Inv X d σ (upd H a (.ins C dx (putF f y fs))) s'->Q () s'):wpAny (model X.prog X.w) A (setAttr (.ref a) f u) Q E s:=by
 obtain⟨k,O,r,l,_,j⟩:=zy I.hok e;have hz:(fs.map (·.1)).length<=sizeLine:=by rw[Ad,Fy];lia
 refine acg I.kIn O c.sa c.po n.taker c.hd l hz fun h' i p=>h _ ?_;have hd:∃o,h'.get? dx=some o:=let ⟨o,_,_,e',_⟩:=i.ns;⟨o,e'⟩;refine I.write (x:=a) (e:=dx) (by rw[e];exact True.intro) (.inr j) (fun b q hb z=>(p.2 b hb).trans z) hd ?_;refine⟨by rw[fq O.ne];exact j,?_,O.ne,i.obj,_,i.ns,fun g=>?_,fun g m=>?_⟩
 . have:=ir f y fs;lia
 . show RelO ((putF f y fs).lookup g) (if g=f then some u else k g);rw[gf];by_cases q:g=f
   . rw[if_pos q,if_pos q];exact t
   . rw[if_neg q,if_neg q];exact r g
 . by_cases q:g=f
   . rw[q];exact (v9 f y fs).1
   . refine (v9 f y fs).2 g (l g fun z=>m ?_);show (if g=f then some u else k g)=none;rw[if_neg q];exact z
theorem Inv.made(I:Inv X c σ H s):Inv X c σ (upd (upd H s.heap.objs.size (.own (s.heap.objs.size+1))) (s.heap.objs.size+1) (.ins C s.heap.objs.size []))
 { s with heap:=(s.heap.push BZ).push (CC C s.heap.objs.size) }:=by
 have d:(s.heap.push BZ).get? s.heap.objs.size=some BZ:=An s.heap rfl;have i:((s.heap.push BZ).push (CC C s.heap.objs.size)).get? (s.heap.objs.size+1)=some (CC C s.heap.objs.size):=by
  have:=An (s.heap.push BZ) (o:=CC C s.heap.objs.size) rfl
  rwa [Bj] at this
 have f:(s.heap.push BZ).Ns s.heap.objs.size (fun _=>none):=⟨BZ,#[],_,d,rfl,(fun e j=>absurd j (by simp)),fun _=>rfl⟩
 have g:=I.laid (a:=s.heap.objs.size) (o:=.own (s.heap.objs.size+1)) (h':=s.heap.push BZ) (t':=s.toks) (fun b u q=>Ab _ q) (Ak _) ⟨_,d⟩;refine g.laid (a:=s.heap.objs.size+1) (o:=.ins C s.heap.objs.size []) (t':=s.toks) (fun b u q=>Ab _ q) (IB (Bj _ _)) ?_;have ne:s.heap.objs.size≠s.heap.objs.size+1:=AA (Ci _);refine⟨by rw[fq ne,ft],AH _,ne,i,fun _=>none,(Heap.Ns1.of_empty f).at fun o q=>Ab _ q,fun _=>True.intro,fun y h=>absurd rfl h⟩
theorem ac9(hb:attributeBase e f env (eval e env)=eval e env)(h:wpAny (model prog w) A (eval e env) (fun o a=>wpAny (model prog w) A (getAttr o f true) Q E a) E s):wpAny (model prog w) A (eval (.Attribute e f pos) env) Q E s :=
 Attribute_any_ h (by rw[arm_eval_Attribute,hb])
def tFld(K:Ac)(ta:TE)(f:Str):TE:=fun σ H Q=>ta σ H fun x H1=>∃a C dx fs v,x=.ref a/\H1 a=some (.ins C dx fs)/\Cls K C/\NoAttr K C f/\fs.lookup f=some v/\Q v H1
def sFld(K:Ac)(ta tv:TE)(f:Str):TS:=fun D σ H=>tv σ H fun y H1=>ta σ H1 fun x H2=>∃a C dx fs,x=.ref a/\H2 a=some (.ins C dx fs)/\Cls K C/\NoAttr K C f/\fs.length<1000/\
 D.nx σ (upd H2 a (.ins C dx (putF f y fs)))
theorem aej(p:PE X e i)(hb:attributeBase e f X.env (eval e X.env)=eval e X.env):PE X (.Attribute e f pos) (tFld X.K i f):=by
 intro b s σ H Q I h;refine ac9 hb (thn (p b s σ H _ I h) fun u r ⟨x,m,j,d,a,C,dx,fs,v,ex,g,c,n,l,q⟩=>?_);subst ex;obtain rfl:u=Value.ref a:=d;exact a59 j g c n l fun t w k o=>⟨v,m,k,o,q⟩
theorem aey(ha:PE X o i)(t:PE X value z)(hs:swapsWith value (some (.Attribute o f d)) pos.line X.env=pure false):PS X (.Assign [.Attribute o f d] value pos) (sFld X.K i z f):=by
 intro b s σ H D I h;refine plainObj_wpAny_Assign_Attribute (thn (t b s σ H _ I h) fun u k ⟨y,p,w,A,q⟩=>thn (ha b k σ p _ w q) fun v F ⟨x,G,j,e,a,C,dx,fs,ex,g,c,n,l,r⟩=>?_) hs;subst ex;obtain rfl:v=Value.ref a:=e;exact a4t j g c n l A fun E m=>⟨σ,_,m,r⟩
structure Room(k:Nat)(A:Around):Prop where
 hd:A.handled=none
 dp:A.depth+3*k+5<recursionLimit
 un:A.units+16*k+200<cLine
theorem Room.mono(r:Room k A)(h:j<=k):Room j A:=⟨r.hd,by have:=r.dp;lia,by have:=r.un;lia⟩
theorem Room.deeper(r:Room (k+1) A)(env:Env):Room k (A.deeper env) :=
 ⟨r.hd,by have:=r.dp;show A.depth+1+3*k+5<_;lia,by have:=r.un;show A.units+3+16*k+200<_;lia⟩
theorem a5j{A:Around}:(A.under (.builtin "type.__call__" ⟨.ref C::us,a⟩)).depth=A.depth+1:=by
 first|rfl|simp[ID,Code.weight,Code.isCreation,Code.isGuard,Code.isCaller,JP,IE,guardIds]
theorem a5p{A:Around}:(A.under (.builtin "type.__call__" ⟨.ref C::us,a⟩)).units=A.units+1:=by
 first|rfl|simp[ID,Code.cUnits,JP,IE]
theorem Room.make(r:Room (k+1) A)(C:Addr)(us:List Value)(a:List (Str×Value)):Room k (A.under (.builtin "type.__call__" ⟨.ref C::us,a⟩)) :=
 ⟨r.hd,by have:=r.dp;rw[a5j];lia,by have:=r.un;rw[a5p];lia⟩
theorem Room.depth(r:Room k A):A.depth<recursionLimit:=by have:=r.dp;lia
theorem Room.units(r:Room k A):A.units+64<cLine:=by have:=r.un;lia
def tNil:TA:=fun _ H Q=>Q [] H
def ip(ta:TE)(tr:TA):TA:=fun σ H Q=>ta σ H fun x H1=>tr σ H1 fun xs H2=>Q (x::xs) H2
theorem oz:PA X [] tNil:=fun _ _ _ _ H Q I h=>DM ⟨[],H,I,.nil,h⟩
theorem jx(ha:PE X e te)(b:PA X es t)(hs:starEach (e::es) X.env=(false,eval e X.env)::starEach es X.env:=by rfl):PA X (e::es) (ip te t):=by
 intro pos a s σ H Q I h;rw[hs];show wpAny _ _ (spliced ((false,eval e X.env)::backTo pos (starEach es X.env))) _ _ s;refine CQ (thn (ha a s σ H _ I h) fun u g ⟨x,k,d,l,c⟩=>?_);exact thn (b pos a g σ k _ d c) fun us n ⟨xs,j,f,i,m⟩=>⟨x::xs,j,f,.cons l i,m⟩
def tTup(t:TA):TE:=fun σ H Q=>t σ H fun xs H1=>xs.length<=sizeLine/\∀p,H1 p=none->Q (.ref p) (upd H1 p (.tup xs))
def tLst(t:TA):TE:=fun σ H Q=>t σ H fun xs H1=>xs.length<=sizeLine/\∀p,H1 p=none->Q (.ref p) (upd H1 p (.lst xs))
theorem a6z{x1}(h:PA X es t):PE X (.Tuple es x1 pos) (tTup t):=by
 intro a s σ H Q I hq;refine wpAny_Tuple_spliced (thn (h pos a s σ H _ I hq) fun us c ⟨xs,f,d,r,z,q⟩=>⟨by rw[<- r.length];exact z,?_⟩);have g:f c.heap.objs.size=none:=d.hok.fresh (Ak _);refine⟨.ref c.heap.objs.size,upd f c.heap.objs.size (.tup xs),d.laid (t':=c.toks) (fun b u e=>Ab _ e) (Ak _) ?_,rfl,q _ g⟩;exact⟨z,us,r,⟨_,An _ rfl,rfl,_,rfl⟩⟩
theorem a1m(h:PA X es t):PE X (.List es pos) (tLst t):=by
 intro a s σ H Q I hq;refine wpAny_List_spliced (thn (h pos a s σ H _ I hq) fun us c ⟨xs,f,d,r,z,q⟩=>⟨by rw[<- r.length];exact z,?_⟩);have g:f c.heap.objs.size=none:=d.hok.fresh (Ak _);refine⟨.ref c.heap.objs.size,upd f c.heap.objs.size (.lst xs),d.laid (t':=c.toks) (fun b u e=>Ab _ e) (Ak _) ?_,rfl,q _ g⟩;exact⟨z,us,0,r,An _ rfl⟩
abbrev Sp:=List V->Hp->VK->XK->Prop
abbrev CXT:=List Env->Hp->Shared->XK->Value->Shared->Prop
structure Env0(P:Program)(w:World)(K:Ac)(mg:Str->Option Value)(base:Heap)(A:Around)(outer:List Env)(s:Shared)(H:Hp):Prop where
 frames:A.frames=some outer
 mod:Mod K mg base
 bs:∀b o,base.get? b=some o->s.heap.get? b=some o/\H b=none
 bsz:base.objs.size<=s.heap.objs.size
 funs:s.heap.FunFrames base outer
 frf:∀b∈frs outer,H b=none
 hok:HOk P w H s.heap
 bare:AllBare s.gens
def CE(outer:List Env)(P:Program)(w:World)(H:Hp)(s:Shared)(Q:VK)(u:Value)(s':Shared):Prop :=
 ∃v H',s'.os=s.os/\AllBare s'.gens/\Un (frs outer) [] H H' s.heap s'.heap/\HOk P w H' s'.heap/\RelV v u/\Q v H'
def CR(CX:CXT)(outer:List Env)(P:Program)(w:World)(H:Hp)(s:Shared)(Q:VK)(E:XK)(r:Result)(s':Shared):Prop :=
 match r with
 | .ok (.ret u)=>CE outer P w H s Q u s'
 | .ok _=>False
 | .error e=>CX outer H s E e s'
structure FnOk(P:Program)(w:World)(K:Ac)(mg:Str->Option Value)(base:Heap)(CX:CXT)(k:Nat)(f:Addr)(fd:FuncData)(ps:List Str)(sp:Sp):Prop where
 len:∀vs H Q E,sp vs H Q E->vs.length=ps.length
 run:∀(A:Around) (outer:List Env) (s:Shared) (H:Hp) (args:Args) (us:List Value) (vs:List V) (Q:VK) (E:XK),Room k A->Env0 P w K mg base A outer s H->BindsTo s fd args (ps.zip us)->Vals vs us->sp vs H Q E->
  codeAny (model P w) A (.call (.ref f) args) (CR CX outer P w H s Q E) s
theorem FnOk.mono{K:Ac}(F:FnOk P w K mg base CX j f fd ps sp)(h:j<=k):
 FnOk P w K mg base CX k f fd ps sp:=⟨F.len,fun A outer s H args us vs Q E a=>F.run A outer s H args us vs Q E (a.mono h)⟩
theorem Env0.make{K:Ac}(e:Env0 P w K mg base A outer s H)(C:Addr)(us:List Value)(a:List (Str×Value)):
 Env0 P w K mg base (A.under (.builtin "type.__call__" ⟨.ref C::us,a⟩)) outer s H:=⟨by first|exact e.frames|(simpa [ID,Code.envs,IE,pushEnvs] using e.frames),e.mod,e.bs,e.bsz,e.funs,e.frf,e.hok,e.bare⟩
theorem Inv.env0(I:Inv X a σ H s):Env0 X.prog X.w X.K X.mg X.base X.A X.stack s H :=
 ⟨I.ok.frames,I.ok.mod,I.bs,Ax I.ok.bsz I.sz,I.stack,I.stkFree,I.hok,I.bare⟩
theorem Inv.after(I:Inv X a σ H s)(h:CE X.stack X.prog X.w H s Q u s'):EP X a σ Q u s':=by
 obtain⟨v,H',os,bare,un,hok,r,q⟩:=h;obtain⟨e,g,d,t,c⟩:=s';obtain rfl:c=s.os:=os;exact⟨v,H',I.call (h':=e) (g':=g) (d':=d) (t':=t) (ch:=[]) un hok bare (fun b z=>absurd z (by simp)),r,q⟩
def za(sp:Sp)(dvs:List V)(E:XK)(t:TA):TE:=fun σ H Q=>t σ H fun vs H1=>sp (vs++dvs) H1 Q E
def sd(C:Addr)(m:Str)(sp:Sp)(dvs:List V)(E:XK)(ta:TE)(t:TA):TE:=fun σ H Q=>ta σ H fun x H1=>∃a dx fs,x=.ref a/\H1 a=some (.ins C dx fs)/\fs.lookup m=none/\
 t σ H1 fun vs H2=>sp (x::(vs++dvs)) H2 Q E
def aaz(C:Addr)(sp:Sp)(dvs:List V)(E:XK)(t:TA):TE:=fun σ H Q=>t σ H fun vs H1=>∀x dx,H1 x=none->H1 dx=none->dx≠x->
 sp (.ref x::(vs++dvs)) (upd (upd H1 dx (.own x)) x (.ins C dx [])) (fun v H2=>v=.non/\Q (.ref x) H2) E
def Binds(K:Ac)(fd:FuncData)(ps:List Str)(ds:List Value):Prop :=
 ∀(s:Shared) (us:List Value),K.In s.heap->(us++ds).length=ps.length->BindsTo s fd ⟨us,[]⟩ (ps.zip (us++ds))
theorem Binds.all{K:Ac}(h:∀us:List Value,us.length=ps.length->bindArgs fd ⟨us,[]⟩=pure (ps.zip us)):Binds K fd ps []:=fun s us _ hl=>by
 rw[Da] at hl |-;exact .of_eq (h us hl)
def m9(CX:CXT)(X:Cx)(E:XK):Prop:=∀(pins:List (Addr×Obj)) (σ:St) (H:Hp) (s:Shared) (e:Value) (s':Shared),Inv X pins σ H s->CX X.stack H s E e s'->X.xe e s'
theorem a1b(F:FnOk X.prog X.w X.K X.mg X.base CX k f fd ps sp)(d:Room k X.A)(hb:Binds X.K fd ps ds)(hd:Vals b ds)(g:m9 CX X E)(I:Inv X a σ H s)(r:Vals vs us)(h:sp (vs++b) H Q E):wpAny (model X.prog X.w) X.A (call (.ref f) us) (EP X a σ Q) X.xe s:=by
 have c:Vals (vs++b) (us++ds):=r.append hd;have hl:(us++ds).length=ps.length:=by rw[<- c.length];exact F.len _ _ _ _ h
 refine HX (DP (F.run X.A X.stack s H ⟨us,[]⟩ (us++ds) (vs++b) Q E d I.env0 (hb s us I.kIn hl) c h) fun r s' hq=>?_);cases r with
 | error e=>exact g a σ H s e s' I hq
 | ok fl =>
  cases fl with
  | ret u=>exact I.after hq
  | next=>exact Cw hq
  | brk=>exact Cw hq
  | cont=>exact Cw hq
theorem ac5(F:FnOk X.prog X.w X.K X.mg X.base CX k f fd ps sp)(l:Room k X.A)(j:Gl X x)(hm:X.mg x=some (.ref f))(m:CA X.K (.ref f)=true)(hb:Binds X.K fd ps ds)(hd:Vals c ds)(i:m9 CX X E)(ha:PA X (e::es) t)(b:(x == ("__debug__" : Str))=false:=by decide)(n:starEach (e::es) X.env=(false,eval e X.env)::starEach es X.env:=by rfl)(d:(backTo pos (starEach es X.env)).any (·.1)=false:=by rfl):
 PE X (.Call (.Name x p) (e::es) [] pos) (za sp c E t):=by
 intro a s σ H Q I h;refine DB (zq I j hm ?_ b);refine Fz (h₀:=X.base) I.ok.mod.kin m (thn (ha pos a s σ H _ I h) fun us o ⟨vs,u,g,r,q⟩=>⟨g.kIn,?_⟩) n d;exact a1b F l hb hd i g r q
theorem abp(O:PE X o D)(c:Cls X.K C)(hm:Meth X.K C m f)(F:FnOk X.prog X.w X.K X.mg X.base CX k f fd ps sp)(N:Room k X.A)(hb:Binds X.K fd ps ds)(hd:Vals g ds)(G:m9 CX X E)(ha:PA X (e::es) t)(i:starEach (e::es) X.env=(false,eval e X.env)::starEach es X.env:=by rfl)(j:(backTo pos (starEach es X.env)).any (·.1)=false:=by rfl)(ht:eval (.Call (.Attribute o m d) (e::es) [] pos) X.env=(do
 let p<-eval o X.env
 standAt d.atName
 let (f,first)<-holding [p] (getMethod p m pl)
 callWith pos f first (backTo pos (starEach (e::es) X.env)) (backToKw pos (keywordEach [] X.env))):=by rfl):
 PE X (.Call (.Attribute o m d) (e::es) [] pos) (sd C m sp g E D t):=by
 intro b s σ H Q I h;refine Hz (pl:=pl) (thn (O b s σ H _ I h) fun u J ⟨x,L,v,y,a,dx,fs,ex,z,l,q⟩=>?_) ht;subst ex;obtain rfl:u=Value.ref a:=y;refine yz v z c hm l ?_;refine Fz (first:=[.ref a]) (h₀:=X.base) I.ok.mod.kin hm.kp (thn (ha pos b J σ L _ v q) fun us P ⟨vs,R,n,r,M⟩=>⟨n.kIn,?_⟩) i j;exact a1b (us:=.ref a::us) (vs:=.ref a::vs) F N hb hd G n (.cons rfl r) M
theorem aaa(v:PE X o p)(c:Cls X.K C)(hm:Meth X.K C m f)(F:FnOk X.prog X.w X.K X.mg X.base CX k f fd ps sp)(t:Room k X.A)(hb:Binds X.K fd ps ds)(hd:Vals e ds)(r:m9 CX X E)(ht:eval (.Call (.Attribute o m b) [] [] pos) X.env=(do
 let i<-eval o X.env
 standAt b.atName
 let (f,first)<-holding [i] (getMethod i m pl)
 callWith pos f first (backTo pos (starEach [] X.env)) (backToKw pos (keywordEach [] X.env))):=by rfl):
 PE X (.Call (.Attribute o m b) [] [] pos) (sd C m sp e E p tNil):=by
 intro d s σ H Q I h;refine Hz (pl:=pl) (thn (v d s σ H _ I h) fun u y ⟨x,z,g,j,a,dx,fs,ex,n,l,q⟩=>?_) ht;subst ex;obtain rfl:u=Value.ref a:=j;refine yz g n c hm l ?_;exact PySem.W.callWith_K0 (first:=[.ref a]) g.kIn hm.kp (a1b (us:=[.ref a]) (vs:=[.ref a]) F t hb hd r g (.cons rfl .nil) q)
structure Mk(K:Ac)(C f:Addr):Prop where
 makes:Fb K C=true
 init:AG K (.ref C) "__init__" = some (some (.ref f))
 fn:BA K (.ref f)=true
 kp:CA K (.ref C)=true
theorem a9g(M:Mk X.K C f)(F:FnOk X.prog X.w X.K X.mg X.base CX k f fd ps sp)(m:Room (k+1) X.A)(hb:Binds X.K fd ps ds)(hd:Vals c ds)(i:m9 CX X E)(I:Inv X b σ H s)(r:Vals vs us)(h:∀x dx,H x=none->H dx=none->dx≠x->sp (.ref x::(vs++c)) (upd (upd H dx (.own x)) x (.ins C dx [])) (fun v p=>v=.non/\Q (.ref x) p) E):
 wpAny (model X.prog X.w) X.A (call (.ref C) us) (EP X b σ Q) X.xe s:=by
 have hq:=h (s.heap.objs.size+1) s.heap.objs.size (I.hok.fresh (Bs _)) (I.hok.fresh (Ak _)) (AA (Ci _));have d:=Inv.made (C:=C) I;have g:Vals (V.ref (s.heap.objs.size+1)::(vs++c)) (Value.ref (s.heap.objs.size+1)::(us++ds)):=.cons rfl (r.append hd);have hl:(Value.ref (s.heap.objs.size+1)::us++ds).length=ps.length:=by
  have e:=g.length;rw[F.len _ _ _ _ hq] at e;exact e.symm
 refine HX (a96 (f:=f) I.kIn M.makes M.init (beq_iff_eq.mp M.fn) (DP (F.run _ X.stack _ _ ⟨Value.ref (s.heap.objs.size+1)::us,[]⟩ (Value.ref (s.heap.objs.size+1)::(us++ds)) _ _ E (m.make C us [])
  (d.env0.make C us []) (hb _ (Value.ref (s.heap.objs.size+1)::us) d.kIn hl) g hq) fun r s' a=>?_))
 cases r with
 | error e=>exact i b σ _ _ e s' d a
 | ok fl =>
  cases fl with
  | ret u =>
   obtain⟨v,H',l,n,o,j⟩:=d.after a;subst o;exact⟨n,⟨V.ref (s.heap.objs.size+1),H',l,rfl,j⟩⟩
  | next=>exact Cw a
  | brk=>exact Cw a
  | cont=>exact Cw a
theorem ad1(M:Mk X.K C f)(F:FnOk X.prog X.w X.K X.mg X.base CX k f fd ps sp)(l:Room (k+1) X.A)(j:Gl X x)(hm:X.mg x=some (.ref C))(hb:Binds X.K fd ps ds)(hd:Vals c ds)(i:m9 CX X E)(ha:PA X (e::es) t)(b:(x == ("__debug__" : Str))=false:=by decide)(m:starEach (e::es) X.env=(false,eval e X.env)::starEach es X.env:=by rfl)(d:(backTo pos (starEach es X.env)).any (·.1)=false:=by rfl):
 PE X (.Call (.Name x p) (e::es) [] pos) (aaz C sp c E t):=by
 intro a s σ H Q I h;refine DB (zq I j hm ?_ b);refine Fz (h₀:=X.base) I.ok.mod.kin M.kp (thn (ha pos a s σ H _ I h) fun us n ⟨vs,o,g,r,q⟩=>⟨g.kIn,?_⟩) m d;exact a9g M F l hb hd i g r q
def PK(X:Cx)(kws:List Keyword)(t:TA):Prop :=
 ∀(pos:Pos) (pins:List (Addr×Obj)) (s:Shared) (σ:St) (H:Hp) (Q:List V->Hp->Prop),Inv X pins σ H s->t σ H Q->wpAny (model X.prog X.w) X.A (evalAll ((backToKw pos (keywordEach kws X.env)).map (·.2))) (AP X pins σ Q) X.xe s
theorem adx:PK X [] tNil:=fun _ _ _ _ H Q I h=>wpAny_evalAll_nil ⟨[],H,I,.nil,h⟩
theorem acy(ha:PE X e te)(d:PK X b t):PK X (⟨nm,e,c⟩::b) (ip te t):=by
 intro pos a s σ H Q I h;show wpAny _ _ (evalAll ((do let v<-eval e X.env;standAt pos;pure v)::(backToKw pos (keywordEach b X.env)).map (·.2))) _ _ s;refine wpAny_evalAll_cons (Aa (thn (ha a s σ H _ I h) fun u j ⟨x,m,g,n,f⟩=>Aa (EO (Ae ?_))));exact thn (d pos a j σ m _ g f) fun us p ⟨xs,l,i,k,o⟩=>⟨x::xs,l,i,.cons n k,o⟩
structure FnScope(N P:List Str)(sc:Scope):Prop where
 kind:sc.kind=.function
 co:sc.isCoroutine=false
 gen:sc.isGenerator=false
 nd:N.Nodup
 pre:N.take P.length=P
 par:∀x∈P,sc.names.lookup x=some .local\/sc.names.lookup x=some .cell
 nofree:∀y∈sc.names,y.2≠.free
theorem a0n{kindOf:Str->Option NameKind}:∀{binds:List (Str×Value)}{m:Str->Option Value},(∀v,(x,v)∉binds)->bindL kindOf binds m x=m x
 | [],_,_=>rfl
 | (n,v)::r,m,h=>by
  unfold bindL;rw[a0n fun w a=>h w (Al _ a)];split
  . have:x≠n:=by rintro rfl;exact h v Af
    simp[this]
  . rfl
theorem a0e{kindOf:Str->Option NameKind}:∀{binds:List (Str×Value)}{m:Str->Option Value},(∀v,(x,v)∉binds)->bindC kindOf binds m x=m x
 | [],_,_=>rfl
 | (n,v)::r,m,h=>by
  unfold bindC;rw[a0e fun w a=>h w (Al _ a)];split
  . rfl
  . have:x≠n:=by rintro rfl;exact h v Af
    simp[this]
theorem a0o{kindOf:Str->Option NameKind}:∀{P:List Str}{vs:List Value}{i:Nat}{m:Str->Option Value},P.Nodup->P[i]? = some x->vs[i]? = some v->kindOf x=some .local->
 bindL kindOf (P.zip vs) m x=some v
 | [],_,_,_,_,h,_,_=>by simp at h
 | _::_,[],_,_,_,_,h,_=>by simp at h
 | p::P,w::vs,0,m,nd,h1,h2,hk=>by
  simp at h1 h2;subst h1;subst h2;show bindL kindOf ((p,w)::P.zip vs) m p=_;unfold bindL;rw[a0n fun v a=>(AU.mp nd).1 (Fc a).1,if_pos hk];simp
 | p::P,w::vs,i+1,m,nd,h1,h2,hk=>by
  show bindL kindOf ((p,w)::P.zip vs) m x=_;unfold bindL;exact a0o (i:=i) (AU.mp nd).2 (by simpa using h1) (by simpa using h2) hk
theorem a08{kindOf:Str->Option NameKind}:∀{P:List Str}{vs:List Value}{i:Nat}{m:Str->Option Value},P.Nodup->P[i]? = some x->vs[i]? = some v->kindOf x≠some .local->
 bindC kindOf (P.zip vs) m x=some v
 | [],_,_,_,_,h,_,_=>by simp at h
 | _::_,[],_,_,_,_,h,_=>by simp at h
 | p::P,w::vs,0,m,nd,h1,h2,hk=>by
  simp at h1 h2;subst h1;subst h2;show bindC kindOf ((p,w)::P.zip vs) m p=_;unfold bindC;rw[a0e fun v a=>(AU.mp nd).1 (Fc a).1,if_neg hk];simp
 | p::P,w::vs,i+1,m,nd,h1,h2,hk=>by
  show bindC kindOf ((p,w)::P.zip vs) m x=_;unfold bindC;exact a08 (i:=i) (AU.mp nd).2 (by simpa using h1) (by simpa using h2) hk
def start(N:List Str)(vs:List V):St:=vs.map some++J8 (N.length - vs.length) none
def cxOf(CX:CXT)(P:Program)(w:World)(K:Ac)(mg:Str->Option Value)(base:Heap)(N:List Str)(qual:Str)(scope:Scope)(f:Addr)(cd:Value)(A:Around)(outer:List Env)(s:Shared)(H:Hp)(E:XK):Cx where
 prog:=P
 w:=w
 K:=K
 mg:=mg
 base:=base
 A:=A.deeper (envOfC qual scope s.heap.objs.size f cd)
 N:=N
 s₀:=s
 H₀:=H
 env:=envOfC qual scope s.heap.objs.size f cd
 outer:=outer
 stack:=envOfC qual scope s.heap.objs.size f cd::outer
 ex:=[]
 calm:=true
 fn:=fun _=>true
 pn:=[]
 xe:=fun e s'=>wpAny (model P w) (A.deeper (envOfC qual scope s.heap.objs.size f cd)) (leaving (envOfC qual scope s.heap.objs.size f cd) e) (fun _ s''=>CX outer H s E e s'') (fun e' s''=>CX outer H s E e' s'') s'
theorem a1r{a:Scope}(h:a.names.lookup x=some .cell):∃c,(cellsFrom n a.names []).lookup x=some c:=by
 have q:=Hk a.names n [] (.inl h);exact Option.isSome_iff_exists.mp q
theorem a7m{K:Ac}(S:FnScope N ps scope)(hd:A.handled=none)(j:Env0 P w K mg base A outer s H)(hl:vs.length=ps.length)(r:Vals vs us)(x:InCallC s s.heap.objs.size (bindL (envOfC g scope s.heap.objs.size f cd).kindOf (ps.zip us) fun _=>none) (cellsFrom (s.heap.objs.size+1) scope.names []) (bindC (envOfC g scope s.heap.objs.size f cd).kindOf (ps.zip us) fun _=>none) F):
 Inv (cxOf CX P w K mg base N g scope f cd A outer s H E) [] (start N vs) H F:=by
 have I:ps.length<=N.length:=by have:=congrArg Hl S.pre;rw[AQ] at this;lia
 obtain⟨t,tk,rfl,D⟩:=x.done;have l:∀b:Addr,b∉(cxOf CX P w K mg base N g scope f cd A outer s H E).ex:=fun b z=>absurd (show b∈([]:List Addr) from z) (by simp);refine⟨⟨j.mod,S.kind,rfl,rfl,Ak _,fun y z c t d=>?_,fun y m=>?_,fun y c _ h=>?_,fun _=>hd,Around.frames_deeper j.frames,.inr ⟨rfl,rfl⟩,fun b z=>absurd z (l b),j.bs,j.bsz,fun b _ _=>l b,fun b z=>absurd z (l b),j.funs,j.frf⟩,
  rfl,j.bare,Un.kept D,⟨_,x.toInCall.ns,fun i y v t d J=>?_⟩,fun y c h=>⟨_,x.cell y c h⟩,j.hok.fresh (Ak _),fun y c h=>?_,fun p hp=>absurd (show p∈([]:List (Addr×Obj)) from hp) (by simp),j.hok.kept D,?_⟩
 . exact name_of_addr x.apart (BQ t) (BQ d)
 . have m:scope.names.lookup y=some .cell\/scope.names.lookup y=some .free:=m;rcases m with m|m
   . exact a1r m
   . exact absurd rfl (S.nofree _ (BQ m))
 . exact BK (x.above y c (BQ h))
 . have hi:i<vs.length:=by
    unfold start at d;by_cases hi:i<vs.length
    . exact hi
    . rw[FH (by simpa using hi)] at d;rw[List.getElem?_replicate] at d;split at d<;>cases d
   have ha:vs[i]? = some v:=by
    unfold start at d;rw[FX (by simpa using hi),Am] at d;cases e:vs[i]? with
    | none=>rw[e] at d;cases d
    | some a=>rw[e] at d;cases d;rfl
   obtain⟨u,C,G⟩:=r.get ha;have hp:ps[i]? = some y:=by
    rw[<- S.pre,Dt (by lia)];exact t
   have o:ps.Nodup:=by rw[<- S.pre];exact S.nd.sublist (EG _ _)
   refine⟨u,G,?_⟩;rcases S.par y (AE hp) with k|k
   . exact .inl ⟨k,a0o o hp C k⟩
   . obtain⟨c,e⟩:=a1r (n:=s.heap.objs.size+1) k;refine .inr ⟨.inl k,c,e,?_⟩;have q:=x.cell y c e;rw[a08 o hp C (by show scope.names.lookup y≠_;rw[k];decide)] at q;exact q
 . exact j.hok.fresh (BK (x.above y c (BQ h)))
 . unfold start;show _=N.length;rw[Aj,Ad,HE]
   lia
theorem afp{K:Ac}{kV:Value}(L:K.lookup f=some ⟨X,od,.func (CS name a params body scope F kV l M G c ct),O⟩)(hcd:HF K c a=true)(S:FnScope N ps scope)(len:∀vs H Q E,sp vs H Q E->vs.length=ps.length)(g:∀(A:Around) (outer:List Env) (s:Shared) (H:Hp) (vs:List V) (Q:VK) (E:XK),Room k (A.deeper (envOfC a scope s.heap.objs.size f c))->sp vs H Q E->
 ∃t,PSs (cxOf CX P w K mg base N a scope f c A outer s H E) body t/\t { nx:=fun _ H'=>Q .non H',rt:=Q } (start N vs) H):
 FnOk P w K mg base CX (k+1) f (CS name a params body scope F kV l M G c ct) ps sp:=by
 refine⟨len,fun A outer s H args us vs Q E m i hb r h=>?_⟩;have hl:=len _ _ _ _ h;have D:K.In s.heap:=i.mod.kin.keeps fun b o e=>(i.bs b o e).1;have z:s.heap.NoLimit:=i.mod.nolimit.keeps fun b o e=>(i.bs b o e).1;have d:∀y∈ps.zip us,scope.names.lookup y.1=some .local\/(scope.names.lookup y.1=some .cell/\((cellsFrom (s.heap.objs.size+1) scope.names []).lookup y.1).isSome=true):=fun⟨n,v⟩ R=>by
  rcases S.par n (Fc R).1 with q|q
  . exact .inl q
  . exact .inr ⟨q,Hk _ _ _ (.inl q)⟩
 refine codeAny_call_function m.depth (D _ _ L) rfl S.co S.gen rfl (PySem.W.codeRec_of D hcd) (hb _ _ _ _ ?_);refine wpAny_newFunctionEnv_cells S.kind d fun env U C x=>?_;subst U;refine⟨z.keeps x.toInCall.keep,codeAny_func ?_⟩;obtain⟨t,ht,hq⟩:=g A outer s H vs Q E (m.deeper _) h;have I:Inv (cxOf CX P w K mg base N a scope f c A outer s H E) [] (start N vs) H C:=a7m S m.hd i hl r x;refine BR (ht [] C (start N vs) H _ I hq) (fun T s' hs=>?_) fun e s' hs=>hs;have fin:∀{j:St} {H':Hp} {v:V} {u:Value},Inv (cxOf CX P w K mg base N a scope f c A outer s H E) [] j H' s'->RelV v u->Q v H'->CE outer P w H s Q u s' :=
  fun {j H' v u} J p q=>⟨v,H',J.os,J.bare,J.base,J.hok,p,q⟩
 cases T with
 | ret u =>
  obtain⟨v,j,H',J,p,q⟩:=hs;exact fin J p q
 | next =>
  obtain⟨j,H',J,q⟩:=hs;exact fin (v:=V.non) (u:=Value.none) J rfl q
 | brk =>
  obtain⟨_,_,_,q⟩:=hs;exact Cw q
 | cont =>
  obtain⟨_,_,_,q⟩:=hs;exact Cw q
def tCB(r:List V->Hp->VK->Prop)(t:TA):TE:=fun σ H Q=>t σ H fun vs H1=>r vs H1 Q
theorem uf{id:String}(hc:jz X (.builtin id) r)(l:Gl X x)(hm:X.mg x=none)(d:bootBuiltins x=some (.builtin id))(ha:PA X (e::es) t)(hn:x ≠ "__name__" := by decide)(c:(x == ("__debug__" : Str))=false:=by decide)(m:starEach (e::es) X.env=(false,eval e X.env)::starEach es X.env:=by rfl)(b:(backTo pos (starEach es X.env)).any (·.1)=false:=by rfl):PE X (.Call (.Name x p) (e::es) [] pos) (tCB r t):=by
 intro a s σ H Q I h;refine DB (nz I l hm d ?_ hn c);exact PyProof.Rows.callWith_builtin1 (thn (ha pos a s σ H _ I h) fun us i ⟨vs,j,g,k,f⟩=>hc a i σ j vs us Q g k f) m b
theorem a0h(hc:jz X (.type T) r)(l:Gl X x)(hm:X.mg x=none)(d:bootBuiltins x=some (.type T))(ha:PA X (e::es) t)(hn:x ≠ "__name__" := by decide)(c:(x == ("__debug__" : Str))=false:=by decide)(m:starEach (e::es) X.env=(false,eval e X.env)::starEach es X.env:=by rfl)(b:(backTo pos (starEach es X.env)).any (·.1)=false:=by rfl):PE X (.Call (.Name x p) (e::es) [] pos) (tCB r t):=by
 intro a s σ H Q I h;refine DB (nz I l hm d ?_ hn c);exact BL (thn (ha pos a s σ H _ I h) fun us i ⟨vs,j,g,k,f⟩=>hc a i σ j vs us Q g k f) m b
end L2
namespace HT
open PySem PyProof.Rows
section
open PySem.SeqAt
open PySem.AutoSeq1 (wpAny_loadPart')
open PySem.MeetsSeq PySem.MeetsSeq2 PySem.MeetsSeq3
end
theorem cat_tup(ht:IsTup s.heap t vs.toArray)(hb:IsTup s.heap b ws.toArray)(k:vs≠[])(o:ws=[]->Q (.ref t) s)(p:ws≠[]->Q (.ref s.heap.objs.size) { s with heap:=s.heap.push { cls:=.type "tuple",data:=.seq (vs++ws).toArray } })(hsz:vs.length+ws.length<=sizeLine):wpAny (model prog w) A (binaryOp .Add (.ref t) (.ref b)) Q E s:=by
 obtain⟨⟨cls,dd,data,m⟩,h,hc,n,hd⟩:=id ht;obtain⟨⟨l,d,j,f⟩,a,g,n2,c⟩:=id hb;simp only at hc hd g c;subst hc hd g c;have e:vs.toArray++ws.toArray=(vs++ws).toArray:=by simp
 by_cases i:ws=[]
 . exact IF ⟨_,h,rfl⟩ ⟨_,a,rfl⟩ Gf Ii EL EA (En _ _)
    (tuple_addW1 t b vs.toArray ws.toArray n n2 dd d m f (by simpa using k) (by simp[i])) ⟨h,a,o i⟩
 . refine IF ⟨_,h,rfl⟩ ⟨_,a,rfl⟩ Gf Ii EL EA (En _ _)
    (tuple_addW2 t b vs.toArray ws.toArray n n2 dd d m f (by simpa using k) (by simpa using i) (by rw[Aq,Aq];exact hsz)) ⟨h,a,?_⟩
   rw[e];exact p i
def sIx(n d:Nat):Option Int->Nat
 | none=>d
 | some v=>if v<0 then (v+(n:Int)).toNat else min v.toNat n
theorem sIx_none(n d:Nat):sIx n d none=d:=rfl
theorem sIx_nat(n d k:Nat):sIx n d (some (k:Int))=min k n:=by
 show (if (k:Int)<0 then ((k:Int)+(n:Int)).toNat else min (k:Int).toNat n)=min k n;rw[if_neg (by lia),Bo]
theorem zj(n d:Nat)(hd:d<=n)(o:Option Int):sIx n d o<=n:=by
 cases o with
 | none=>exact hd
 | some v =>
  show (if v<0 then (v+(n:Int)).toNat else min v.toNat n)<=n;by_cases a:v<0
  . rw[if_pos a];lia
  . rw[if_neg a];exact Nat.min_le_right _ _
theorem a35(v:Int)(n d:Nat):(if v<0 then max (v+(n:Int)) 0 else min v (n:Int))=((sIx n d (some v):Nat):Int):=by
 show (if v<0 then max (v+(n:Int)) 0 else min v (n:Int))=(((if v<0 then (v+(n:Int)).toNat else min v.toNat n):Nat):Int)
 by_cases a:v<0
 . simp only[if_pos a];lia
 . simp only[if_neg a];lia
theorem a5d(lo hi:Option Int)(n:Nat):Eh lo hi 1 (n:Int)=(((sIx n 0 lo:Nat):Int),((sIx n n hi:Nat):Int)):=by
 have a:¬ ((1:Int)<0):=by lia
 unfold Eh;simp only[a,if_false];refine Prod.ext ?_ ?_
 . cases lo with
   | none=>rfl
   | some v=>exact a35 v n 0
 . cases hi with
   | none=>rfl
   | some v=>exact a35 v n n
theorem a58(i j:Nat):Dl (i:Int) (j:Int) 1=j - i:=by
 unfold Dl;have a:(1:Int)>0:=by lia
 simp only[a,if_true,Int.ediv_one];split<;>lia
theorem yl(p:IsPart v o)(h:Q o s):wpAny (model prog w) A (Builtin.Slice.slicePartIndex v) Q E s:=by
 cases p with
 | none=>exact slicePart_none h
 | int i t=>exact slicePart_int h
theorem qj{lo:Option Int}{Q:Int×Int×Nat->Shared->Prop}(hs:s.heap.IsSliceOf f d c .none)(pl:IsPart d lo)(g:IsPart c hi)(h:Q (((sIx n 0 lo:Nat):Int),1,sIx n n hi - sIx n 0 lo) s):wpAny (model prog w) A (FI (.ref f) (pure (n:Int))) Q E s:=by
 obtain⟨os,a,e,b⟩:=id hs;unfold FI Builtin.Slice.sliceFields;refine Aa (Aa (Bn a b (x:=d) rfl (Aa (Bn a b (x:=c) rfl (Aa (Bn a b (x:=.none) rfl (Ae ?_)))))));refine Aa (slicePart_none ?_);show wpAny _ _ (if ((1:Int) == 0)=true then _ else _) _ _ s;rw[if_neg (by decide)];refine Aa (yl pl (Aa (yl g (Aa (Ae ?_)))));show wpAny _ _ (match Eh lo hi 1 (n:Int) with|(lo,hi)=>pure (lo,(1:Int),Dl lo hi 1)) _ _ s;rw[a5d lo hi n];show wpAny _ _ (pure (((sIx n 0 lo:Nat):Int),(1:Int),Dl ((sIx n 0 lo:Nat):Int) ((sIx n n hi:Nat):Int) 1)) _ _ s;rw[a58];exact Ae h
theorem a9q(xs:Array Value)(i k:Nat):((Ce k).filterMap fun (m:Nat)=>xs[((i:Int)+(m:Int)*1).toNat]?).toArray=((xs.toList.drop i).take k).toArray:=by
 have e:(fun (m:Nat)=>xs[((i:Int)+(m:Int)*1).toNat]?)=fun m=>xs[i+m]?:=by
  funext m
  have:((i:Int)+(m:Int)*1).toNat=i+m:=by lia
  rw[this]
 rw[e];have:=pick_run xs i k;rw[IG] at this;have a:((fun x=>xs[x]?)∘fun x=>i+x)=fun m=>xs[i+m]?:=rfl;rw[a] at this;rw[this]
theorem getItem_tuple_cut{lo:Option Int}(ht:IsTup s.heap t items)(hs:s.heap.IsSliceOf f i j .none)(pl:IsPart i lo)(k:IsPart j hi)(l:¬ (sIx items.size 0 lo=0/\sIx items.size items.size hi=items.size))(h:Q (.ref s.heap.objs.size) { s with heap:=s.heap.push { cls:=.type "tuple",data:=.seq ((items.toList.drop (sIx items.size 0 lo)).take (sIx items.size items.size hi - sIx items.size 0 lo)).toArray } })(hsz:items.size<=sizeLine):wpAny (model prog w) A (getItem (.ref t) (.ref f)) Q E s:=by
 have a:sizeOk (.seq ((items.toList.drop (sIx items.size 0 lo)).take (sIx items.size items.size hi - sIx items.size 0 lo)).toArray):=by
  show ((items.toList.drop (sIx items.size 0 lo)).take (sIx items.size items.size hi - sIx items.size 0 lo)).toArray.size<=sizeLine;rw[Aq,AQ,Bc,Bi];omega
 have o:sIx items.size items.size hi<=items.size:=zj _ _ (Ak _) hi;obtain⟨os,d,c,g⟩:=id hs;have e:s.TypeIs (.ref f) "slice" := ⟨os,d,c⟩
 unfold getItem
 try with_reducible refine AX ?_
 first|refine Aa (Ae ?_)|skip
 refine Aa (IT ht.typeIs (by decide) ?_);refine Aa (Bm (name:=Bf "__getitem__") ht.typeIs BN
  (Bp BN ht.typeIs entry_tuple_getitem ?_ (args_tuple_getitem _ _)))
 show wpAny _ _ (FJ (.ref t) >>= _) _ _ s;refine Aa (tupleItemsOf_ ht ?_);refine Aa (CT e ?_);rw[if_pos (by decide)];refine Aa (qj hs pl k ?_);have b:¬ ((((sIx items.size 0 lo:Nat):Int) == 0 && (1:Int) == 1 && (sIx items.size items.size hi - sIx items.size 0 lo) == items.size)=true):=by
  intro q;rw[BO,BO] at q;have n:((sIx items.size 0 lo:Nat):Int)=0:=eq_of_beq q.1.1;have p:sIx items.size items.size hi - sIx items.size 0 lo=items.size:=eq_of_beq q.2;exact l ⟨by omega,by omega⟩
 show wpAny _ _ (if (((sIx items.size 0 lo:Nat):Int) == 0 && (1:Int) == 1 && (sIx items.size items.size hi - sIx items.size 0 lo) == items.size)=true then _ else _) _ _ s;rw[if_neg b,a9q]
 first
  | exact Aa (m:=Du _) (AZ (Ae ⟨_,rfl,Ae h⟩) a)
  | exact Aa (m:=Du _) (AZ (Aa (Ae (Ae ⟨_,rfl,Ae h⟩))) a)
  | exact Aa (Aa (m:=Du _) (AZ (Ae (Ae ⟨_,rfl,Ae h⟩)) a))
  | exact Aa (Aa (m:=Du _) (AZ (Ae ⟨_,rfl,Ae h⟩) a))
end HT
namespace L2
open PySem PySem.Spec PyProof.Rows
abbrev TO:=St->Hp->(Option Int->Hp->Prop)->Prop
def PO(X:Cx)(e:Option Expr)(t:TO):Prop :=
 ∀(pins:List (Addr×Obj)) (s:Shared) (σ:St) (H:Hp) (Q:Option Int->Hp->Prop),Inv X pins σ H s->t σ H Q->
   wpAny (model X.prog X.w) X.A (evalPart e X.env) (fun u s'=>∃o H',Inv X pins σ H' s'/\IsPart u o/\Q o H') X.xe s
def a00:TO:=fun _ H Q=>Q none H
def a4s(t:TE):TO:=fun σ H Q=>t σ H fun x H1=>∃i,x=.int i/\Q (some i) H1
section
theorem a38:PO X none a00:=by
 intro a s σ H Q I h;rw[Ij];exact Ae ⟨none,H,I,.none,h⟩
theorem a46(h:PE X e te):PO X (some e) (a4s te):=by
 intro a s σ H Q I g;rw[evalPart_some];refine thn (h a s σ H _ I g) fun u j ⟨x,d,c,f,b⟩=>?_;obtain⟨i,rfl,q⟩:=b;obtain⟨t,rfl⟩:=f;exact⟨some i,d,c,.int i t,q⟩
variable{lo hi:Option Expr} in
def SlR(X:Cx)(r:V->Option Int->Option Int->Hp->VK->Prop):Prop :=
 ∀(pins:List (Addr×Obj)) (s:Shared) (σ:St) (H:Hp) (x:V) (v vl vu:Value) (lo hi:Option Int) (sl:Addr) (Q:VK),Inv X pins σ H s->RelV x v->s.heap.IsSliceOf sl vl vu .none->IsPart vl lo->IsPart vu hi->r x lo hi H Q->
   ∃T id,typeLookup (.type T) "__getitem__" = pure (some (.builtin id))/\s.TypeIs v T/\wpAny (model X.prog X.w) X.A (getItem v (.ref sl)) (EP X pins σ Q) X.xe s
variable{X:Cx}{lo hi:Option Expr} in
def tSl(r:V->Option Int->Option Int->Hp->VK->Prop)(te:TE)(tl th:TO):TE:=fun σ H Q=>te σ H fun x H1=>tl σ H1 fun l H2=>th σ H2 fun u H3=>r x l u H3 Q
variable{X:Cx}{e:Expr}{te:TE}{lo hi:Option Expr}{tl th:TO}{pos p2:Pos} in
theorem a1c{r:V->Option Int->Option Int->Hp->VK->Prop}(E:SlR X r)(L:PE X e te)(hl:PO X lo tl)(F:PO X hi th):PE X (.Subscript e (.Slice lo hi none p2) pos) (tSl r te tl th):=by
 intro a s σ H Q I h;refine Subscript_ (thn (L a s σ H _ I h) fun v j ⟨x,o,G,p,i⟩=>?_);refine wpAny_Slice (thn (hl a j σ o _ G i) fun f C ⟨l,J,k,pl,z⟩=>thn (F a C σ J _ k z) fun d c ⟨u,g,n,t,m⟩=>?_);rw[Ij];refine Ae ?_;have D:Inv X a σ g { c with heap:=c.heap.push { cls:=.type "slice",data:=.fields #[f,d,.none] } }:=n.kept (t':=c.toks) fun b ob q=>Ab _ q;obtain⟨T,id,M,ht,y⟩:=E a { c with heap:=c.heap.push { cls:=.type "slice",data:=.fields #[f,d,.none] } } σ g x v f d l u c.heap.objs.size Q D p (IH ..) pl t m;show wpAny (model X.prog X.w) X.A (subscriptTail e (.Slice lo hi none p2) v (.ref c.heap.objs.size)) (EP X a σ Q) X.xe { c with heap:=c.heap.push { cls:=.type "slice",data:=.fields #[f,d,.none] } };exact tail_any (ops:=[.ref c.heap.objs.size,v]) ht M y (by with_unfolding_all rfl)
def cutV(xs:List V)(lo hi:Option Int):List V:=(xs.drop (HT.sIx xs.length 0 lo)).take (HT.sIx xs.length xs.length hi - HT.sIx xs.length 0 lo)
theorem xb(xs:List V)(lo hi:Option Int):(cutV xs lo hi).length<=xs.length:=by
 unfold cutV;rw[AQ,Bc]
 lia
variable{lo hi:Option Expr} in
def rSlT(K:Ac):V->Option Int->Option Int->Hp->VK->Prop:=fun x lo hi H Q=>∃a xs,x=.ref a/\SqT K H a xs/\
 ¬ (HT.sIx xs.length 0 lo=0/\HT.sIx xs.length xs.length hi=xs.length)/\∀p,H p=none->Q (.ref p) (upd H p (.tup (cutV xs lo hi)))
variable{X:Cx} in
theorem zh:SlR X (rSlT X.K):=by
 intro d s σ H x v j k lo hi l Q I e hs pl g h;obtain⟨a,xs,rfl,f,i,q⟩:=h;cases e;obtain⟨its,r,ht,hz⟩:=I.tuple f;have c:its.toArray.size=xs.length:=by rw[Aq];exact r.length.symm
 refine⟨"tuple",_,BN.lookup,ht.typeIs,?_⟩;refine HT.getItem_tuple_cut ht hs pl g (by rw[c];exact i) ?_ (by rw[c];exact hz);rw[c];refine⟨.ref s.heap.objs.size,_,I.laid (t':=s.toks) (o:=.tup (cutV xs lo hi)) (fun b ob q=>Ab _ q) (Ak _) ?_,rfl,q _ (I.hok.fresh (Ak _))⟩;exact⟨Ax (xb xs lo hi) hz,_,(r.drop (HT.sIx xs.length 0 lo)).take (HT.sIx xs.length xs.length hi - HT.sIx xs.length 0 lo),IsTup.new _ _⟩
def afb(K:Ac):R2:=fun x y H Q=>∃a b xs ys,x=.ref a/\y=.ref b/\SqT K H a xs/\SqT K H b ys/\xs≠[]/\xs.length+ys.length<=sizeLine/\
 (ys=[]->Q (.ref a) H)/\(ys≠[]->∀p,H p=none->Q (.ref p) (upd H p (.tup (xs++ys))))
theorem Vals.nil_iff(r:Vals xs us):us=[]↔xs=[]:=by
 cases r with
 | nil=>simp
 | cons _ _=>simp
theorem vp:OpR X (binaryOp .Add) (afb X.K):=by
 intro e s σ H x y v u Q I g l h;obtain⟨a,b,xs,ys,rfl,rfl,ha,hb,i,hz,j,k⟩:=h;cases g;cases l;obtain⟨its,d,p1,_⟩:=I.tuple ha;obtain⟨f,c,p2,_⟩:=I.tuple hb;refine HT.cat_tup p1 p2 (fun z=>i (d.nil_iff.mp z)) (fun z=>⟨.ref a,H,I,rfl,j (c.nil_iff.mp z)⟩) (fun z=>?_) (by rw[<- d.length,<- c.length];exact hz);refine⟨.ref s.heap.objs.size,_,I.laid (t':=s.toks) (o:=.tup (xs++ys)) (fun b ob q=>Ab _ q) (Ak _) ?_,rfl,k (fun w=>z (c.nil_iff.mpr w)) _ (I.hok.fresh (Ak _))⟩;exact⟨by rw[Aj];exact hz,_,d.append c,IsTup.new _ _⟩
end
def ixN(n:Nat)(i:Int):Option Nat:=if 0<=i then (if i<n then some i.toNat else none) else if -(n:Int)<=i then some (i+n).toNat else none
def atI{α:Type}(xs:List α)(i:Int):Option α:=(ixN xs.length i).bind fun j=>xs[j]?
theorem a42(h:ixN n i=some j):seqIndex? i n=some j/\j<n /\ -(n:Int)<=i/\i<n:=by
 unfold ixN at h;by_cases h0:0<=i
 . rw[if_pos h0] at h;by_cases a:i<n
   . rw[if_pos a] at h;have e:i.toNat=j:=A0 h;exact⟨by rw[Je h0 a,e],by lia,by lia,a⟩
   . rw[if_neg a] at h;cases h
 . rw[if_neg h0] at h;by_cases a : -(n:Int)<=i
   . rw[if_pos a] at h;have e:(i+n).toNat=j:=A0 h;exact⟨by rw[II (by lia) a,e],by lia,a,by lia⟩
   . rw[if_neg a] at h;cases h
theorem zt(h:atI xs i=some v):∃j,seqIndex? i xs.length=some j/\xs[j]? = some v/\j<xs.length /\ -(xs.length:Int)<=i/\i<xs.length:=by
 unfold atI at h;cases e:ixN xs.length i with
 | none=>rw[e] at h;cases h
 | some j =>
  rw[e] at h;obtain⟨b,d,a,c⟩:=a42 e;exact⟨j,b,h,d,a,c⟩
theorem jg{xs:List α}{j:Nat}{v:α}(h:xs[j]? = some v):atI xs (j:Int)=some v:=by
 have a:j<xs.length:=(Aw.mp h).1;have e:ixN xs.length (j:Int)=some j:=by
  unfold ixN;rw[if_pos (by lia),if_pos (by lia)];simp
 unfold atI;rw[e];exact h
def wq(b:Expr):Prop:=∀o i,subscripted b false o i=operate [o,i] (getItem o i)
def IxR(X:Cx)(r:R2):Prop :=
 ∀(value slice:Expr) (pins:List (Addr×Obj)) (s:Shared) (σ:St) (H:Hp) (x y:V) (v u:Value) (Q:VK),Inv X pins σ H s->RelV x v->RelV y u->r x y H Q->
   subscripted slice false v u=operate [v,u] (getItem v u)->wpAny (model X.prog X.w) X.A (subscriptTail value slice v u) (EP X pins σ Q) X.xe s
def MtR(X:Cx)(id:String)(r:V->List V->Hp->VK->Prop):Prop :=
 ∀(pins:List (Addr×Obj)) (s:Shared) (σ:St) (H:Hp) (x:V) (xs:List V) (v:Value) (us:List Value) (Q:VK),Inv X pins σ H s->RelV x v->Vals xs us->r x xs H Q->
   wpAny (model X.prog X.w) X.A (call (.builtin id) (v::us)) (EP X pins σ Q) X.xe s
section
theorem a12(d:IxR X r)(ha:PE X a f)(hb:PE X b j)(hs:wq b):PE X (.Subscript a b pos) (tOp r f j):=by
 intro c s σ H Q I h;exact Subscript_ (binT ha hb I h fun v u l x y i g e k q=>d a b c l σ i x y v u Q g e k q (hs _ _))
def rIxL(K:Ac):R2:=fun x y H Q=>∃p xs i v,x=.ref p/\y=.int i/\SqL K H p xs/\atI xs i=some v/\Q v H
def rIxT(K:Ac):R2:=fun x y H Q=>∃p xs i v,x=.ref p/\y=.int i/\SqT K H p xs/\atI xs i=some v/\Q v H
def rIxS:R2:=fun x y H Q=>∃z i c,x=.str z/\y=.int i/\z.length<=sizeLine/\atI z.cps.toList i=some c/\Q (.str ⟨#[c]⟩) H
theorem l8:IxR X (rIxL X.K):=by
 intro value e a s σ H x y v u Q I g m h hs;obtain⟨p,xs,i,z,rfl,rfl,hq,o,q⟩:=h;cases g;obtain⟨t,rfl⟩:=m;obtain⟨its,r,pl,hz⟩:=I.list hq;obtain⟨j,b,n,A,k,l⟩:=zt o;obtain⟨w,f,d⟩:=r.get n;have hl:=r.length;have hn:=tu;have fin:EP X a σ Q w s:=⟨z,H,I,d,q⟩
 by_cases h0:0<=i
 . have c:i.toNat=j:=by
    rw[Je h0 l] at b;exact A0 b
   exact item_listR pl.isList h0 (by lia) (by rw[c];simpa using f) fin hs
 . have c:(i+(its.toArray.size:Int)).toNat=j:=by
    rw[II (by lia) k] at b;rw[Aq,<- hl];exact A0 b
   exact subscriptTail_builtinR (x:=w) pl.isList.typeIs FS.lookup
    (wpAny_getItem_list_neg (Q:=fun r s'=>r=w/\EP X a σ Q r s') pl.isList (by lia) (by rw[Aq]<;>lia) (by lia) (by rw[c];simpa using f) ⟨rfl,fin⟩) hs
theorem gy:IxR X (rIxT X.K):=by
 intro value c a s σ H x y v u Q I e g h hs;obtain⟨p,xs,i,z,rfl,rfl,hq,l,q⟩:=h;cases e;obtain⟨t,rfl⟩:=g;obtain⟨its,r,pl,hz⟩:=I.tuple hq;obtain⟨j,d,k,m,n,o⟩:=zt l;obtain⟨w,f,b⟩:=r.get k;have hl:=r.length;have hn:=tu;have fin:EP X a σ Q w s:=⟨z,H,I,b,q⟩
 exact subscriptTail_builtinR (x:=w) pl.typeIs slot_tuple_getitem.lookup
  (getItem_tuple (j:=j) (Q:=fun r s'=>r=w/\EP X a σ Q r s') pl (by lia) (by lia) (by rw[Aq,<- hl];exact d) (by simpa using f) ⟨rfl,fin⟩) hs
theorem nw:IxR X rIxS:=by
 intro value a b s σ H x y v u Q I e l h hs;obtain⟨z,i,c,rfl,rfl,hz,o,q⟩:=h;obtain⟨t,rfl⟩:=e;obtain⟨t',rfl⟩:=l;obtain⟨j,d,n,p,f,k⟩:=zt o;have hl:z.cps.toList.length=z.length:=by simp[FY]
 rw[hl] at d f k;have hn:=tu;exact tail_any (HY s z t) slot_str_getitem.lookup (getItem_str (c:=c) (by
  have g:decide (i < -(2 ^ 63:Int))=false:=decide_eq_false (by lia);have m:decide (i >= 2 ^ 63)=false:=decide_eq_false (by lia);rw[g,m,JD]) (by rw[d];simpa using n) ⟨.str ⟨#[c]⟩,H,I.tok _,⟨_,rfl⟩,q⟩) hs
theorem a5k(its:List Value)(n j:Nat)(u:Value):E7 (·.setIfInBounds j u) { cls:=.type "list",data:=.seq its.toArray n }={ cls:=.type "list",data:=.seq (its.set j u).toArray n }:=by
 simp[E7]
variable{X:Cx} in
theorem Inv.lst{a:List (Addr×Obj)}{σ:St}{H:Hp}{s:Shared}{p:Addr}{xs:List V}(I:Inv X a σ H s)(h:H p=some (.lst xs)):
 ∃(its:List Value) (n:Nat),Vals xs its/\s.heap.get? p=some { cls:=.type "list",data:=.seq its.toArray n }/\xs.length<=sizeLine:=by
 obtain⟨z,its,n,r,e⟩:=I.hok p _ h;exact⟨its,n,r,e,z⟩
theorem Inv.lstUpd{its:List Value}(I:Inv X a σ H s)(h:H p=some (.lst xs))(g:s.heap.get? p=some { cls:=.type "list",data:=.seq its.toArray n })(d:f { cls:=.type "list",data:=.seq its.toArray n }={ cls:=.type "list",data:=.seq its'.toArray c })(r:Vals ys its')(hz:ys.length<=sizeLine)(t:Nat):
 Inv X a σ (upd H p (.lst ys)) { s with heap:=s.heap.update p f,toks:=t }:=by
 have e:(s.heap.update p f).get? p=some { cls:=.type "list",data:=.seq its'.toArray c }:=by
  rw[B7 f g (by rw[d]<;>rfl),d]
 refine I.write (x:=p) (e:=p) (by rw[h];trivial) (.inl rfl) (fun b u hb q=>(Bv _ _ (AL hb)).trans q) ⟨_,e⟩ ?_;exact⟨hz,its',c,r,e⟩
def afj:V->V->V->Hp->(Hp->Prop)->Prop:=fun o i v H Q=>∃p xs k j,o=.ref p/\i=.int k/\H p=some (.lst xs)/\ixN xs.length k=some j/\Q (upd H p (.lst (xs.set j v)))
theorem ui:PSet X afj:=by
 intro a s σ H o i v z y u Q I l w x h;obtain⟨p,xs,k,j,rfl,rfl,hp,m,q⟩:=h;cases l;obtain⟨t,rfl⟩:=w;obtain⟨its,n,r,c,hz⟩:=I.lst hp;obtain⟨b,A,e,f⟩:=a42 m;have hl:=r.length;have hn:=tu;have g:Inv X a σ (upd H p (.lst (xs.set j v))) { s with heap:=s.heap.update p (E7 (·.setIfInBounds j u)) } :=
  I.lstUpd hp c (a5k its n j u) (r.set x j) (by rw[Js];exact hz) s.toks
 by_cases h0:0<=k
 . have d:k.toNat=j:=by
    rw[Je h0 f] at b;exact A0 b
   exact PySem.W.ki_setAt c h0 (by lia) (by rw[Aq,<- hl];exact f) (by rw[d];exact⟨_,g,q⟩)
 . have d:(k+(its.toArray.size:Int)).toNat=j:=by
    rw[II (by lia) e] at b;rw[Aq,<- hl];exact A0 b
   exact PySem.W.ki_setBack c (by lia) (by rw[Aq,<- hl];exact e) (by lia) (by rw[d];exact⟨_,g,q⟩)
theorem a1s(lo hi:Option Int)(n:Nat):(sliceBounds lo hi none n).1=((HT.sIx n 0 lo:Nat):Int)/\(sliceBounds lo hi none n).2.1=((HT.sIx n n hi:Nat):Int)/\(sliceBounds lo hi none n).2.2=1:=by
 refine⟨?_,?_,rfl⟩
 . cases lo with
   | none=>simp[sliceBounds,HT.sIx]
   | some i =>
    simp only[sliceBounds,HT.sIx,Jh,show (1:Int)>0 by decide,if_true];by_cases h:i<0
    . simp only[h,if_true]<;>lia
    . simp only[h,if_false]<;>lia
 . cases hi with
   | none=>simp[sliceBounds,HT.sIx]
   | some i =>
    simp only[sliceBounds,HT.sIx,Jh,show (1:Int)>0 by decide,if_true];by_cases h:i<0
    . simp only[h,if_true]<;>lia
    . simp only[h,if_false]<;>lia
theorem a0u(its:List Value)(lo hi:Option Int):slicePick its.toArray lo hi none=((its.drop (HT.sIx its.length 0 lo)).take (HT.sIx its.length its.length hi - HT.sIx its.length 0 lo)).toArray:=by
 obtain⟨c,b,a⟩:=a1s lo hi its.toArray.size;unfold slicePick;rw[c,b,a];simp only[sliceRange_one,pick_run,Aq]<;>rfl
def rSlL(K:Ac):V->Option Int->Option Int->Hp->VK->Prop:=fun x lo hi H Q=>∃a xs,x=.ref a/\SqL K H a xs/\∀p,H p=none->Q (.ref p) (upd H p (.lst (cutV xs lo hi)))
variable{X:Cx} in
theorem acv:SlR X (rSlL X.K):=by
 intro d s σ H x v i j lo hi k Q I e hs pl g h;obtain⟨a,xs,rfl,f,q⟩:=h;cases e;obtain⟨its,r,ht,hz⟩:=I.list f;have c:=r.length;refine⟨"list",_,FS.lookup,ht.isList.typeIs,?_⟩;refine Gg ht.isList hs pl g .none (by simp) ?_ (by rw[Aq]<;>lia);rw[a0u,<- c];refine⟨.ref s.heap.objs.size,_,I.laid (t':=s.toks) (o:=.lst (cutV xs lo hi)) (fun b ob q=>Ab _ q) (Ak _) ?_,rfl,q _ (I.hok.fresh (Ak _))⟩;exact⟨Ax (xb xs lo hi) hz,_,0,(r.drop (HT.sIx xs.length 0 lo)).take (HT.sIx xs.length xs.length hi - HT.sIx xs.length 0 lo),An _ rfl⟩
def qb:V->Bool
 | .non=>true
 | .bl _=>true
 | .int _=>true
 | .str _=>true
 | _=>false
def eqV:V->V->Bool
 | .non,.non=>true
 | .bl a,.bl b=>a == b
 | .bl a,.int b=>(if a then 1 else 0) == b
 | .int a,.bl b=>a == (if b then 1 else 0)
 | .int a,.int b=>a == b
 | .str a,.str b=>a == b
 | _,_=>false
theorem aen(d:RelV y u)(c:RelV x v)(f:qb y=true)(e:qb x=true):HZ A s u v (eqV y x):=by
 cases y with
 | non =>
  cases d;cases x with
  | non=>cases c;exact Ei _
  | bl b=>cases c;exact SeqAt.EqAt.none_bool b
  | int b=>obtain⟨t,rfl⟩:=c;exact SeqAt.EqAt.none_int b t
  | str b=>obtain⟨t,rfl⟩:=c;exact SeqAt.EqAt.none_str b t
  | _=>exact absurd (show false=true from e) Ai
 | bl a =>
  cases d;cases x with
  | non=>cases c;exact SeqAt.EqAt.bool_none a
  | bl b=>cases c;exact SeqAt.EqAt.bool_bool a b
  | int b=>obtain⟨t,rfl⟩:=c;exact SeqAt.EqAt.bool_int a b t
  | str b=>obtain⟨t,rfl⟩:=c;exact SeqAt.EqAt.bool_str a b t
  | _=>exact absurd (show false=true from e) Ai
 | int a =>
  obtain⟨t',rfl⟩:=d;cases x with
  | non=>cases c;exact SeqAt.EqAt.int_none a t'
  | bl b=>cases c;exact SeqAt.EqAt.int_bool a t' b
  | int b=>obtain⟨t,rfl⟩:=c;exact IJ a t' b t
  | str b=>obtain⟨t,rfl⟩:=c;exact Ir a t' b t
  | _=>exact absurd (show false=true from e) Ai
 | str a =>
  obtain⟨t',rfl⟩:=d;cases x with
  | non=>cases c;exact SeqAt.EqAt.str_none a t'
  | bl b=>cases c;exact SeqAt.EqAt.str_bool a t' b
  | int b=>obtain⟨t,rfl⟩:=c;exact Iu a t' b t
  | str b=>obtain⟨t,rfl⟩:=c;exact Eo a t' b t
  | _=>exact absurd (show false=true from e) Ai
 | _=>exact absurd (show false=true from f) Ai
def eqU(x:V)(u:Value):Bool:=match u with
 | .none=>eqV .non x
 | .bool b=>eqV (.bl b) x
 | .int i _=>eqV (.int i) x
 | .str z _=>eqV (.str z) x
 | _=>false
theorem a8f(r:RelV y u)(f:qb y=true):eqU x u=eqV y x:=by
 cases y with
 | non=>cases r;rfl
 | bl b=>cases r;rfl
 | int i=>obtain⟨t,rfl⟩:=r;rfl
 | str z=>obtain⟨t,rfl⟩:=r;rfl
 | _=>exact absurd (show false=true from f) Ai
theorem t9:∀{xs:List V}{us:List Value},Vals xs us->xs.all qb=true->us.any (eqU x)=xs.any fun y=>eqV y x
 | _,_,.nil,_=>rfl
 | y::xs,u::us,.cons r t,f=>by
  rw[JE,BO] at f;rw[Cy,Cy,a8f r f.1,t9 t f.2]
theorem qm(b:RelV x v)(c:qb x=true):∀{xs:List V}{us:List Value},Vals xs us->xs.all qb=true->∀u∈us,HZ A s u v (eqU x u)
 | _,_,.nil,_=>fun u a=>by cases a
 | y::xs,u::us,.cons r t,f=>fun d a=>by
  rw[JE,BO] at f;rcases Ah.mp a with rfl|a
  . rw[a8f r f.1];exact aen r b f.1 c
  . exact qm b c t f.2 d a
def inV(x:V)(xs:List V):Bool:=xs.any fun y=>eqV y x
def rIn(K:Ac)(neg:Bool):R2:=fun x y H Q=>∃p xs,y=.ref p/\(SqL K H p xs\/SqT K H p xs)/\qb x=true/\xs.all qb=true/\Q (.bl (if neg then !inV x xs else inV x xs)) H
theorem rf:OpR X (compareOp .In) (rIn X.K false):=by
 intro b s σ H x y v u Q I c e h;obtain⟨p,xs,rfl,hq,d,fs,q⟩:=h;cases e;rcases hq with hq|hq
 . obtain⟨its,r,pl,hz⟩:=I.list hq;refine SeqAt.in_listAt (eqU x) pl.isList (fun w a=>qm c d r fs w (by simpa using a)) ⟨.bl _,H,I,rfl,?_⟩;rw[show its.toArray.any (eqU x)=its.any (eqU x) by simp,t9 r fs];exact q
 . obtain⟨its,r,pl,hz⟩:=I.tuple hq;refine SeqAt.in_tupleAt (eqU x) pl (fun w a=>qm c d r fs w (by simpa using a)) ⟨.bl _,H,I,rfl,?_⟩;rw[show its.toArray.any (eqU x)=its.any (eqU x) by simp,t9 r fs];exact q
theorem a2c:OpR X (compareOp .NotIn) (rIn X.K true):=by
 intro b s σ H x y v u Q I c e h;obtain⟨p,xs,rfl,hq,d,fs,q⟩:=h;cases e;rcases hq with hq|hq
 . obtain⟨its,r,pl,hz⟩:=I.list hq;refine SeqAt.notIn_listAt (eqU x) pl.isList (fun w a=>qm c d r fs w (by simpa using a)) ⟨.bl _,H,I,rfl,?_⟩;rw[show its.toArray.any (eqU x)=its.any (eqU x) by simp,t9 r fs];exact q
 . obtain⟨its,r,pl,hz⟩:=I.tuple hq;refine SeqAt.notIn_tupleAt (eqU x) pl (fun w a=>qm c d r fs w (by simpa using a)) ⟨.bl _,H,I,rfl,?_⟩;rw[show its.toArray.any (eqU x)=its.any (eqU x) by simp,t9 r fs];exact q
theorem ld:jz X (.builtin "len") (fun xs H Q=>∃p ys,xs=[.ref p]/\(SqL X.K H p ys\/SqT X.K H p ys)/\Q (.int ys.length) H):=by
 intro c s σ H xs us Q I r h;obtain⟨p,ys,rfl,hq,q⟩:=h;obtain⟨u,rfl,d⟩:=rg r;cases d;have hn:=tu;rcases hq with hq|hq
 . obtain⟨its,b,pl,hz⟩:=I.list hq;have a:=b.length;exact Calls.call_len_list pl.isList (by simp only[Aq]<;>lia) ⟨.int ys.length,H,I.tok _,⟨s.toks+1,by rw[Aq,a]⟩,q⟩
 . obtain⟨its,b,pl,hz⟩:=I.tuple hq;have a:=b.length;exact len_tuple pl (by simp only[Aq]<;>lia) ⟨.int ys.length,H,I.tok _,⟨s.toks+1,by rw[Aq,a]⟩,q⟩
theorem ur:jz X (.builtin "len") (fun xs H Q=>∃z,xs=[.str z]/\z.length<=sizeLine/\Q (.int z.length) H):=by
 intro a s σ H xs us Q I r h;obtain⟨z,rfl,hz,q⟩:=h;obtain⟨u,rfl,t,rfl⟩:=rg r;have hn:=tu;exact len_str (by lia) ⟨.int z.length,H,I.tok _,⟨_,rfl⟩,q⟩
theorem ji:jz X (.type "list") (fun xs H Q=>∃p ys,xs=[.ref p]/\(SqL X.K H p ys\/SqT X.K H p ys)/\∀l,H l=none->Q (.ref l) (upd H l (.lst ys))):=by
 intro f s σ H xs us Q I r h;obtain⟨p,ys,rfl,hq,q⟩:=h;obtain⟨u,rfl,j⟩:=rg r;cases j;have fin:∀(its:List Value),Vals ys its->ys.length<=sizeLine->∀(h':Heap) (a:Nat),(∀b i,s.heap.get? b=some i->h'.get? b=some i)->
  h'.get? s.heap.objs.size=some { cls:=.type "list",dict:=none,data:=.seq its.toArray a,slots := #[] }->EP X f σ Q (.ref s.heap.objs.size) { s with heap:=h' }:=fun its c hz h' a kp e =>
  ⟨.ref s.heap.objs.size,_,I.laid (t':=s.toks) kp (Ak _) (show ObjOk X.prog X.w _ h' _ (.lst ys) from⟨hz,its,a,c,e⟩),rfl,q _ (I.hok.fresh (Ak _))⟩
 rcases hq with hq|hq
 . obtain⟨its,c,pl,hz⟩:=I.list hq;have d:=c.length;obtain⟨o,g,hc,n,hd⟩:=pl.isList;exact call_list_seq p (.inl rfl) g hc hd (fun h' a kp e=>fin its c hz h' a kp e) (by simp only[Aq]<;>lia)
 . obtain⟨its,c,pl,hz⟩:=I.tuple hq;have d:=c.length;obtain⟨o,g,hc,n,hd⟩:=pl;exact call_list_seq p (.inr rfl) g hc hd (fun h' a kp e=>fin its c hz h' a kp e) (by simp only[Aq]<;>lia)
theorem q5:jz X (.type "tuple") (fun xs H Q=>∃p ys,xs=[.ref p]/\((SqL X.K H p ys/\∀l,H l=none->Q (.ref l) (upd H l (.tup ys)))\/(SqT X.K H p ys/\Q (.ref p) H))):=by
 intro a s σ H xs us Q I r h;obtain⟨p,ys,rfl,h⟩:=h;obtain⟨u,rfl,g⟩:=rg r;cases g;rcases h with⟨hq,q⟩|⟨hq,q⟩
 . obtain⟨its,c,pl,hz⟩:=I.list hq;have d:=c.length;refine call_tuple_list pl.isList (fun h' kp=>?_) (by simp only[Aq]<;>lia);have f:Inv X a σ H { s with heap:=h' }:=I.kept (t':=s.toks) kp;have i:Inv X a σ (upd H h'.objs.size (.tup ys)) { s with heap:=h'.push { cls:=.type "tuple",data:=.seq its.toArray } } :=
    f.laid (t':=s.toks) (fun b o e=>Ab _ e) (Ak _) (show ObjOk X.prog X.w _ _ _ (.tup ys) from⟨hz,its,c,IsTup.new _ _⟩)
   exact⟨.ref h'.objs.size,_,i,rfl,q _ (f.hok.fresh (Ak _))⟩
 . obtain⟨its,c,pl,hz⟩:=I.tuple hq;exact call_tuple_same pl ⟨.ref p,H,I,rfl,q⟩
def tyV(K:Ac)(T:String)(x:V)(H:Hp):Prop:=match x with
 | .str _=>T = "str"
 | .int _=>T = "int"
 | .ref p=>(T = "list" /\ ∃xs,SqL K H p xs)\/(T = "tuple" /\ ∃o,K.lookup p=some o/\o.cls=.type "tuple" /\ o.dict=none)\/
  (T = "dict" /\ ((∃kvs,H p=some (.dK kvs))\/∃kvs,H p=some (.dT kvs)))\/(T = "set" /\ ∃S n,H p=some (.set S n))
 | _=>False
theorem a5x(I:Inv X f σ H s)(r:RelV x v)(ty:tyV X.K T x H):
 s.TypeIs v T/\∀a,v=.ref a->∃ob,s.heap.get? a=some ob/\ob.dict=none:=by
 cases x with
 | str z =>
  obtain⟨t,rfl⟩:=r;cases (show T = "str" from ty);exact⟨HY s z t,fun _ e=>nomatch e⟩
 | int i =>
  obtain⟨t,rfl⟩:=r;cases (show T = "int" from ty);exact⟨typeIs_int s i t,fun _ e=>nomatch e⟩
 | ref p =>
  cases r;rcases ty with⟨rfl,xs,hq⟩|⟨rfl,o,b,hc,hd⟩|⟨rfl,b⟩|⟨rfl,S,n,b⟩
  . obtain⟨its,_,pl,_⟩:=I.list hq;refine⟨pl.isList.typeIs,fun a e=>?_⟩;cases e;obtain⟨o,n,e,c,hd,_⟩:=pl;exact⟨o,e,hd⟩
  . refine⟨⟨o,I.kIn p o b,hc⟩,fun a e=>?_⟩;cases e;exact⟨o,I.kIn _ o b,hd⟩
  . have z:∃o,s.heap.get? p=some o/\o.ExactDict:=by
     rcases b with⟨kvs,b⟩|⟨kvs,b⟩
     . obtain⟨_,_,_,_,o,_,_,e,ex,_⟩:=I.hok p _ b;exact⟨o,e,ex⟩
     . obtain⟨_,_,_,_,o,_,_,e,ex,_⟩:=I.hok p _ b;exact⟨o,e,ex⟩
    obtain⟨o,e,ex⟩:=z;refine⟨⟨o,e,ex.1⟩,fun a d=>?_⟩;cases d;exact⟨o,e,ex.2.1⟩
  . obtain⟨o,_,_,_,e,ex,_⟩:=I.hok p _ b;refine⟨⟨o,e,ex.1⟩,fun a d=>?_⟩;cases d;exact⟨o,e,ex.2.1⟩
 | _=>exact Cw ty
def tBM0(K:Ac)(T:String)(r:V->List V->Hp->VK->Prop)(to:TE):TE:=fun σ H Q=>to σ H fun x H1=>tyV K T x H1/\r x [] H1 Q
def tBM(K:Ac)(T:String)(r:V->List V->Hp->VK->Prop)(to:TE)(t:TA):TE:=fun σ H Q=>to σ H fun x H1=>tyV K T x H1/\t σ H1 fun xs H2=>r x xs H2 Q
theorem af0{id:String}(j:PlainAttrs T)(slot:Slot T name id)(f:typeOf (.builtin id)=pure (.type "method_descriptor"))(hm:MtR X id r)(n:PE X o to)(c:attributeBase o name X.env (eval o X.env)=eval o X.env:=by rfl)(b:(d.endLine == e.line)=true:=by rfl):PE X (.Call (.Attribute o name d) [] [] e) (tBM0 X.K T r to):=by
 intro a s σ H Q I h;refine wpAny_Call_method0_late c b (thn (n a s σ H _ I h) fun v m ⟨x,p,g,i,ty,l⟩=>?_);obtain⟨k,q⟩:=a5x g i ty;exact⟨T,id,j,slot,f,k,q,Cv rfl (PySem.evalArgs_none (hm a m σ p x [] v [] Q g i .nil l))⟩
theorem abg{id:String}(F:PlainAttrs T)(slot:Slot T name id)(k:typeOf (.builtin id)=pure (.type "method_descriptor"))(hm:MtR X id r)(A:PE X o to)(ha:PA X (e::es) t)(f:attributeBase o name X.env (eval o X.env)=eval o X.env:=by rfl)(j:((backTo b (starEach (e::es) X.env)).all (fun x => !x.1) && (backToKw b (keywordEach [] X.env)).all (fun x=>x.1.isSome)
 && decide ((e::es).length+([]:List Keyword).length+(if ([]:List Keyword).isEmpty then 0 else 1)<30))=true:=by rfl)(g:(i.endLine == b.line)=true:=by rfl)(hs:starEach (e::es) X.env=(false,eval e X.env)::starEach es X.env:=by rfl)(d:(backTo b (starEach es X.env)).any (·.1)=false:=by rfl):
 PE X (.Call (.Attribute o name i) (e::es) [] b) (tBM X.K T r to t):=by
 intro c s σ H Q I h;refine Hm f j g rfl (thn (A c s σ H _ I h) fun v y ⟨x,C,p,n,ty,u⟩=>?_);obtain⟨q,J⟩:=a5x p n ty;refine⟨T,id,F,slot,k,q,J,?_⟩;have l:=ha b c y σ C _ p u;rw[hs] at l |-;refine Cv (by show (false || (backTo b (starEach es X.env)).any (·.1))=false;rw[d]<;>rfl) (Dm ?_);exact thn l fun us E ⟨vs,G,w,z,D⟩=>hm c E σ G x vs v us Q w n z D
/- xs.append(e),list.index on a module's tuple .. are MtR facts of 06m -/
end
def MtM(X:Cx)(id:String)(r:V->List V->Hp->VK->Prop):Prop :=
 ∀(pins:List (Addr×Obj)) (s:Shared) (σ:St) (H:Hp) (x:V) (xs:List V) (v:Value) (us:List Value) (Q:VK),Inv X pins σ H s->RelV x v->Vals xs us->r x xs H Q->
   wpAny (model X.prog X.w) X.A (call (.builtin id) (v::us)) (EP X pins σ Q) X.xe s
theorem Vals.one:∀{x:V}{us:List Value},Vals [x] us->∃u,us=[u]/\RelV x u
 | _,_,.cons r .nil=>⟨_,rfl,r⟩
theorem Vals.zero:∀{us:List Value},Vals [] us->us=[]
 | _,.nil=>rfl
theorem Vals.dropLast(h:Vals xs us):Vals xs.dropLast us.dropLast:=by
 induction h with
 | nil=>exact .nil
 | cons r t ih =>
  cases t with
  | nil=>exact .nil
  | cons q t'=>exact .cons r ih
theorem a5h(l:List α):l.eraseIdx (l.length - 1)=l.dropLast:=by
 induction l with
 | nil=>rfl
 | cons a r ih =>
  cases r with
  | nil=>rfl
  | cons b r =>
   have e:(a::b::r).length - 1=((b::r).length - 1)+1:=by
    have d:(a::b::r).length=r.length+2:=rfl;have c:(b::r).length=r.length+1:=rfl
    lia
   rw[e,List.eraseIdx_cons_succ,ih]
   all_goals rfl
theorem Inv.lset{its:List Value}(I:Inv X a σ H s)(b:H l=some (.lst xs))(e:s.heap.get? l=some { cls:=.type "list",data:=.seq its.toArray n })(g:f its.toArray=its'.toArray)(d:Vals ys its')(hz:ys.length<=sizeLine):
 Inv X a σ (upd H l (.lst ys)) { s with heap:=s.heap.update l (E7 f),toks:=t' }:=by
 have q:=PySem.IsL.update e f;rw[g] at q;refine I.write (x:=l) (e:=l) (by rw[b];exact trivial) (.inl rfl) (fun h u hb c=>(Bv s.heap (E7 f) (AL hb)).trans c) ⟨_,q⟩ ?_;exact⟨hz,its',_,d,q⟩
theorem Inv.lnew(I:Inv X a σ H s)(b:Vals ys its)(hz:ys.length<=sizeLine):
 Inv X a σ (upd H s.heap.objs.size (.lst ys)) { s with heap:=s.heap.push { cls:=.type "list",data:=.seq its.toArray },toks:=t' } :=
 I.laid (fun _ _ q=>Ab _ q) (Ak _) ⟨hz,its,0,b,An _ rfl⟩
theorem Inv.fresh(I:Inv X a σ H s):H s.heap.objs.size=none:=I.hok.fresh (Ak _)
theorem Inv.lstM(I:Inv X a σ H s)(b:H l=some (.lst xs)):xs.length<=sizeLine/\∃(its:List Value) (n:Nat),Vals xs its/\xs.length=its.length/\s.heap.get? l=some { cls:=.type "list",data:=.seq its.toArray n }:=by
 obtain⟨z,its,n,r,e⟩:=I.hok l _ b;exact⟨z,its,n,r,r.length,e⟩
theorem a8z(h:n<=sizeLine):Ep n=false:=by
 unfold Ep;exact decide_eq_false (by lia)
def a43:V->List V->Hp->VK->Prop:=fun x vs H Q=>∃l xs y,x=.ref l/\vs=[y]/\H l=some (.lst xs)/\xs.length<sizeLine/\Q .non (upd H l (.lst (xs++[y])))
theorem kg:MtM X "list.append" a43:=by
 intro b s σ H x vs v us Q I c d h;obtain⟨l,xs,y,rfl,rfl,a,hz,q⟩:=h;cases c;obtain⟨u,rfl,f⟩:=d.one;obtain⟨z,its,n,r,hl,e⟩:=I.lstM a;refine Jt F.slot_list_append ⟨_,e,rfl⟩ F.entry_list_append (F.args_list_append_2 _ _) (PySem.list_append l its.toArray n u (by rw[Aq];lia)) ⟨e,?_⟩;refine⟨.non,_,I.lset (its':=its++[u]) a e (by simp) (r.append (.cons f .nil)) ?_,rfl,q⟩;rw[Aj,Ba]
 lia
def abw:V->List V->Hp->VK->Prop:=fun x vs H Q=>∃l b xs zs,x=.ref l/\vs=[.ref b]/\H l=some (.lst xs)/\H b=some (.lst zs)/\xs.length+zs.length<=sizeLine/\Q .non (upd H l (.lst (xs++zs)))
theorem ot:MtM X "list.extend" abw:=by
 intro f s σ H x vs v us Q I g m h;obtain⟨l,b,xs,zs,rfl,rfl,d,i,hz,q⟩:=h;cases g;obtain⟨u,rfl,p⟩:=m.one;cases p;obtain⟨z,its,n,r,hl,e⟩:=I.lstM d;obtain⟨t,a,n2,k,j,o⟩:=I.lstM i;have hsz:its.toArray.size+a.toArray.size<=sizeLine:=by rw[Aq,Aq];lia
 have c:¬ (!its.toArray.isEmpty && Ep (its.toArray.size+a.toArray.size))=true:=by
  rw[a8z hsz,Bool.and_false];exact Ai
 refine Jt F.slot_list_extend ⟨_,e,rfl⟩ F.entry_list_extend (F.args_list_extend_2 _ _)
  (AutoSeq1.list_extend_list_list_0 l its.toArray n b a.toArray n2 c (by rw[Aq];lia) (by lia)) ⟨e,o,?_⟩
 refine⟨.non,_,I.lset (its':=its++a) d e (by simp) (r.append k) ?_,rfl,q⟩;rw[Aj]
 lia
def rPop:V->List V->Hp->VK->Prop:=fun x vs H Q=>∃l xs y,x=.ref l/\vs=[]/\H l=some (.lst xs)/\xs[xs.length - 1]? = some y/\Q y (upd H l (.lst xs.dropLast))
theorem a2s:MtM X "list.pop" rPop:=by
 intro d s σ H x vs v us Q I f i h;obtain⟨l,xs,y,rfl,rfl,c,j,q⟩:=h;cases f;have a:=i.zero;subst a;obtain⟨z,its,n,r,hl,e⟩:=I.lstM c;obtain⟨u,g,k⟩:=r.get j;have b:its.toArray[its.toArray.size - 1]? = some u:=by
  show its.toArray[its.length - 1]? = some u;rw[<- BU,<- hl];exact g
 refine Jt F.slot_list_pop ⟨_,e,rfl⟩ F.entry_list_pop (F.args_list_pop_1 _) (MeetsSeq.list_pop_last l its.toArray n u b (by rw[Aq];lia)) ⟨e,?_⟩;refine⟨y,_,I.lset (its':=its.dropLast) c e ?_ r.dropLast ?_,k,q⟩
 . show its.toArray.eraseIdxIfInBounds (its.toArray.size - 1)=its.dropLast.toArray;rw[Aq,List.eraseIdxIfInBounds_toArray,a5h]
 . rw[List.length_dropLast]
   lia
def rCat:R2:=fun x y H Q=>∃l b xs zs,x=.ref l/\y=.ref b/\H l=some (.lst xs)/\H b=some (.lst zs)/\xs.length+zs.length<=sizeLine/\∀p,H p=none->Q (.ref p) (upd H p (.lst (xs++zs)))
theorem ky:OpR X (binaryOp .Add) rCat:=by
 intro c s σ H x y v u Q I f m h;obtain⟨l,b,xs,zs,rfl,rfl,d,i,hz,q⟩:=h;cases f;cases m;obtain⟨z,its,n,r,hl,e⟩:=I.lstM d;obtain⟨p,a,n2,k,j,o⟩:=I.lstM i;refine PySem.P.add_list e o ?_ (by rw[Aq,Aq];lia);have g:its.toArray++a.toArray=(its++a).toArray:=by simp
 rw[g];exact⟨.ref _,_,I.lnew (t':=s.toks) (r.append k) (by rw[Aj];lia),rfl,q _ I.fresh⟩
end L2
namespace Att
open PySem PySem.W PySem.Calls PyProof.Rows
theorem yp:∀(ns:List Int) (vs:List Value),WellAll P h vs (ns.map WData.int)->IntsAre vs ns:=by
 intro ns;induction ns with
 | nil =>
  intro vs w;rw[JK] at w;cases w;exact .nil
 | cons n ns ih =>
  intro vs w;rw[Ar] at w;cases w with
  | cons a b =>
   cases a;exact .cons _ _ (ih _ b)
theorem a6i{l:OpenLaw}(hn:l.most=some n)(b:l.row.toRowW.claim.pre args=true)(j:WellAll P h e args):
 ∃a vs ns,e=[Value.ref a]/\args=[WData.list (ns.map WData.int)]/\h.get? a=some { cls:=.type "list",data:=.seq vs.toArray }/\IntsAre vs ns/\ns.length<=n:=by
 have i:WShape.hasAll [] args [.list .int]=true:=(pre_splitW b).1;have hc:l.pre.holds [] { args:=args }=true:=(pre_splitW b).2;obtain⟨d,r,rfl,m,p⟩:=hasAllW_cons i;obtain rfl:=hasAllW_nil p;obtain⟨xs,rfl,k⟩:=hasW_list m;obtain⟨ns,rfl⟩:=items_int k;have c:ns.length<=n:=by
  unfold OpenLaw.pre at hc;have g:(WTm.not (.lt (.lit (.int (n:Int))) (.len (.arg 0)))).holds [] { args:=[.list (ns.map .int)] }=true:=by
   have g:=(holds_andW hc).1;rw[hn] at g;exact g
  have f:=condW_of g (w_not (w_lt w_lit (w_len_list (w_arg rfl))));rw[Ad] at f;refine Gh fun q=>?_;have o:(n:Int)<((ns.length:Nat):Int):=by omega
  first
   | (rw[decide_eq_true o] at f;exact absurd f (by decide))
   | (simp at f;omega)
 cases j with
 | cons w1 w2 =>
  cases w2;cases w1 with
  | list ho hall=>exact⟨_,_,ns,rfl,rfl,ho,yp ns _ hall,c⟩
theorem a6d(l:OpenLaw)(args:List WData):l.row.toRowW.claim.post args (.bool true) args=true :=
 postW_of (r:=l.row.toRowW) (X:=(true == true))
  (show WShape.has [] (.bool true) .bool=true by first|rfl|decide|simp[WShape.has,WShape.arms,WShape.armsAll])
  (show (WTm.eq .res (.lit (.bool true))).value [] { args:=args,res:=some (.bool true),after:=args }=some (.bool (true == true)) from w_eq_bool (w_res rfl) w_lit) rfl
theorem attach_call{l:OpenLaw}(hn:l.most=some n)(m:d.params.defaults=[])(call:∀(w:World) (s₀ b:Shared) (mg s:Str->Option Value) (k:Addr) (o:Obj) (u cd c:Value) (a:Addr) (vs:List Value) (ns:List Int),
 Ground q g [] J w s₀ mg s b.heap->C w b.heap->
 b.heap.get? k=some o->o.data=.func (docDef d.name d.params d.body d.scope u cd c)->b.heap.CodeRec cd d.name->mg d.name=some (.ref k)->
 b.heap.get? a=some { cls:=.type "list",data:=.seq vs.toArray }->IntsAre vs ns->ns.length<=n->b.gens = #[]->
 codeAny (model l.prog w) callerA (.call (.ref k) ⟨[.ref a],[]⟩) (fun r s'=>r=.ok (.ret (.bool true))/\OldK b.heap s'.heap/\s'.os=b.os/\AllBare s'.gens) b):
 WalkO q g J C l.row.toRowW d [] (fun f vs=>Ju f vs):=by
 intro w s₀ b mg s G Y k o u cd c A kV D hd hcd y p H args v as i x I t E;obtain rfl:A=.none:=Dflts.none y m;obtain rfl:kV=.none:=Dflts.noKw y;obtain⟨a,vs,ns,rfl,rfl,j,e,h⟩:=a6i hn i t;refine enter_call (DP (call w s₀ b mg s k o u cd c a vs ns G Y D (fd_plain hd) hcd p j e h H) fun r s' hq=>?_);obtain⟨rfl,L,z,F⟩:=hq;exact⟨.inl ⟨.bool true,.bool true,[],rfl,fun _=>rfl,.bool true,a6d l _,fun _=>⟨List.Pairwise.nil,fun _ hm=>(nomatch hm)⟩⟩,L,z,F⟩
end Att
namespace L2
open PySem PySem.Spec PyProof.Rows
theorem a04:∀{vs:List Value}{ns:List Int},IntsAre vs ns->Vals (ns.map V.int) vs
 | _,_,.nil=>.nil
 | _,_,.cons n t h=>.cons ⟨t,rfl⟩ (a04 h)
def Only(H:Hp):Prop:=∀b,H b=none\/∃o xs,H b=some (.frz o (.lst xs))
theorem a8x{K:Ac}(Q:K.In c.heap)(p:c.heap.Ns mainGlobals mg)(hb:c.heap.Ns builtinsNs M)(G:∀x:Str,x ≠ "__name__" -> M x=bootBuiltins x)(C:c.heap.NoLimit)(T:c.gens = #[])(ha:c.heap.get? a=some { cls:=.type "list",data:=.seq vs.toArray })(hi:IntsAre vs ns)(hl:ns.length<=sizeLine)(hr:Room k callerA)(F:∀base:Heap,K.In base->base.Ns mainGlobals mg->FnOk P w K mg base CX k S fd [x] sp)(j:∀(s:Shared) (u:Value),BindsTo s fd ⟨[u],[]⟩ [(x,u)])(D:∀H:Hp,Only H->SqL K H a (ns.map V.int)->sp [.ref a] H (fun v _=>v=.bl true) fun _ _ _=>False)(J:∀H e s',CX [] H c (fun _ _ _=>False) e s'->False):
 codeAny (model P w) callerA (.call (.ref S) ⟨[.ref a],[]⟩) (fun r s'=>r=.ok (.ret (.bool true))/\OldK c.heap s'.heap/\s'.os=c.os/\AllBare s'.gens) c:=by
 have R:=a04 hi;have t:=hi.length;have i:∀H:Hp,Only H->SqL K H a (ns.map V.int)->HOk P w H c.heap->(∀b,H b≠none->b=a)->(H a≠none->K.lookup a=none)->
  codeAny (model P w) callerA (.call (.ref S) ⟨[.ref a],[]⟩) (fun r s'=>r=.ok (.ret (.bool true))/\OldK c.heap s'.heap/\s'.os=c.os/\AllBare s'.gens) c:=by
  intro H O hS hok L hK;have f:∀{b:Addr} {o:Obj},c.heap.get? b=some o->H b=none->(hidT c.heap H).get? b=some o:=fun e n=>aah e n;have E:∀{b:Addr} {o:Obj} {es:Array DictEntry} {ep:Nat},c.heap.get? b=some o->o.data=.dict es ep->H b=none:=fun {b o es ep} e d=>by
   cases q:H b with
   | none=>rfl
   | some u =>
    have I:b=a:=L b (by rw[q];simp);subst I;rw[ha] at e;cases e;have d':Data.seq vs.toArray _=Data.dict es ep:=d;cases d'
  have g:∀{b:Addr} {m:Str->Option Value},c.heap.Ns b m->(hidT c.heap H).Ns b m:=fun {b m} ⟨o,es,ep,e,d,r⟩=>⟨o,es,ep,f e (E e d),d,r⟩
  have l:K.In (hidT c.heap H):=fun b o e=>f (Q b o e) (by
   cases q:H b with
   | none=>rfl
   | some u =>
    have I:b=a:=L b (by rw[q];simp);subst I;rw[hK (by rw[q];simp)] at e;cases e)
  have U:Mod K mg (hidT c.heap H):=⟨l,g p,⟨M,g hb,G⟩,let ⟨mc,h1,h2⟩:=C;⟨mc,g h1,h2⟩⟩
  have e0:Env0 P w K mg (hidT c.heap H) callerA [] c H:=⟨rfl,U,fun b o e=>adf e,IB (a6w _ _),trivial,fun b hb=>absurd (show b∈([]:List Addr) from hb) (by simp),hok,.of_eq T⟩
  refine DP ((F _ l (g p)).run callerA [] c H ⟨[.ref a],[]⟩ [.ref a] [.ref a] _ _ hr e0 (j c (.ref a)) (.cons rfl .nil) (D H O hS)) fun r s' h=>?_;cases r with
  | error e=>exact (J H e s' h).elim
  | ok fl =>
   cases fl with
   | next=>exact Cw h
   | brk=>exact Cw h
   | cont=>exact Cw h
   | ret u =>
    obtain⟨v,H',os,bare,un,A,r',q⟩:=h;have X:v=.bl true:=q;subst X;obtain rfl:u=Value.bool true:=r';refine⟨rfl,OldK.of_keep fun b o e=>?_,os,bare⟩;cases q:H b with
    | none=>exact un.keep b o e q (by intro z;exact absurd (show b∈([]:List Addr) from z) (by simp)) (by simp)
    | some u =>
     rcases O b with z|⟨ob,xs,z⟩
     . rw[q] at z;cases z
     . have Z:=un.frzs b ob _ z;obtain⟨N,_⟩:=hok b _ z;obtain⟨Y,_⟩:=A b _ Z;rw[e] at N;cases N;exact Y
 cases hk:K.lookup a with
 | some o =>
  have e:=Q a o hk;rw[ha] at e;cases e;refine i (fun _=>none) (fun _=>.inl rfl) (.inr ⟨_,vs.toArray,_,hk,rfl,rfl,rfl,by rw[Aq,t];exact hl,by simpa using R⟩) (fun b u z=>by have y:(none:Option HO)=some u:=z;cases y) (fun b z=>absurd rfl z) fun z=>absurd rfl z
 | none =>
  refine i (fun b=>if b=a then some (.frz { cls:=.type "list",data:=.seq vs.toArray } (.lst (ns.map V.int))) else none) (fun b=>?_) (.inl (.inr ⟨{ cls:=.type "list",data:=.seq vs.toArray },if_pos rfl⟩)) (fun b u z=>?_) (fun b z=>?_) fun _=>hk
  . by_cases hb:b=a
    . exact .inr ⟨_,_,if_pos hb⟩
    . exact .inl (if_neg hb)
  . by_cases hb:b=a
    . have y:=(if_pos hb).symm.trans z;cases y;subst hb;exact⟨ha,by rw[Ad];exact hl,vs,_,R,ha⟩
    . have y:=(if_neg hb).symm.trans z;cases y
  . by_cases hb:b=a
    . exact hb
    . exact absurd (if_neg hb) z
theorem walk_of{l:Hc}{K:Params->Ac}{CX:World->CXT}{sp:World->Sp}(hn:l.most=some n)(y:n<=sizeLine)(p:d.params.defaults=[])(N:Room k callerA)(P:∀(w:World) (h:Heap),D w h->(K w.params).In h)(F:∀(w:World) (mg:Str->Option Value) (m:Addr) (h:Heap),(K w.params).In h->h.Ns mainGlobals mg->mg d.name=some (.ref m)->
 ∃fd:FuncData,(∀(s:Shared) (u:Value),BindsTo s fd ⟨[u],[]⟩ [(x,u)])/\
  ∀base:Heap,(K w.params).In base->base.Ns mainGlobals mg->FnOk l.prog w (K w.params) mg base (CX w) k m fd [x] (sp w))(r:∀(w:World) (H:Hp) (a:Addr) (ns:List Int),ns.length<=n->Only H->SqL (K w.params) H a (ns.map V.int)->sp w [.ref a] H (fun v _=>v=.bl true) fun _ _ _=>False)(A:∀(w:World) (H:Hp) (s:Shared) (e:Value) (s':Shared),CX w [] H s (fun _ _ _=>False) e s'->False):
 JF q z S D l.row.toRowW d [] (fun f vs=>Ju f vs):=by
 refine Att.attach_call hn p fun w s₀ E mg R m o U cd I a vs ns G Y Q hd hcd t j i c J=>?_;have C:=P w _ Y;obtain⟨fd,hb,L⟩:=F w mg m _ C G.T.g t;exact a8x C G.T.g G.T.b G.T.builtins G.T.nolimit J j i (Ax c y) N L hb (fun H M O=>r w H a ns c M O) fun H e s'=>A w H E e s'
end L2
/- THE LAST THEOREM (shape;LID,My.* are yours):
 My.Adr: a structure of the addresses that your layer names (classes,functions);My.Txt K t: a structure (Prop) of the equations over K;
 My.txt_mk:{K} {implicit addresses ..} (e1:nsIn K mainGlobals "law" = some (some (.ref f))) (e2:K.lookup f=some ⟨oc,od,.func (fnOf "law" "law" params body scope dV kV doc pm an cdv ct),sl⟩) (e3:codeIn K cdv "law" = true) .. : ∃t,My.Txt K t
(the c k_is has no namespace: write k_is) -/
namespace L2
open PySem PySem.Spec PyProof.Rows
def kh(s:Stmt)(j:Nat):Stmt:=match s with
 | .ClassDef _ _ _ body _ _ _ _ _ _ _=>body.getD j (.Pass ⟨0,0,0,0⟩)
 | _=>.Pass ⟨0,0,0,0⟩
def o8(s:Stmt):Arguments:=match s with
 | .FunctionDef _ a _ _ _ _ _ _ _ _=>a
 | _=>{ posonlyargs:=[],args:=[],vararg:=none,kwonlyargs:=[],kw_defaults:=[],kwarg:=none,defaults:=[] }
def lv(s:Stmt):List Stmt:=match s with
 | .FunctionDef _ _ b _ _ _ _ _ _ _=>b
 | _=>[]
def iu(s:Stmt):Scope:=match s with
 | .FunctionDef _ _ _ _ _ _ sc _ _ _=>sc
 | _=>{ kind:=.function,names:=[],isGenerator:=false,isCoroutine:=false }
abbrev CX0:CXT:=fun _ _ _ _ _ _=>False
abbrev E0:XK:=fun _ _ _=>False
theorem im:m9 CX0 X E0:=fun _ _ _ _ _ _ _ h=>h.elim
structure Fun(K:Ac)(x qual:Str)(st:Stmt)(f:Addr)(fd:FuncData):Prop where
 ex:∃(oc:Value) (od:Option Addr) (kV doc pm:Value) (an:Option Addr) (cdv ct:Value) (osl:Array (Option Value)),
  fd=CS x qual (o8 st) (lv st) (iu st) .none kV doc pm an cdv ct/\K.lookup f=some ⟨oc,od,.func fd,osl⟩/\HF K cdv qual=true
 kp:CA K (.ref f)=true
section
variable{P:Program}{w:World}{K:Ac}{mg:Str->Option Value}{base:Heap} in
theorem Fun.ok{x a:Str}{st:Stmt}{f:Addr}{fd:FuncData}{N ps:List Str}{k:Nat}{sp:Sp}(F:Fun K x a st f fd)(S:FnScope N ps (iu st))(len:∀vs H Q E,sp vs H Q E->vs.length=ps.length)(c:∀(b:Value) (A:Around) (outer:List Env) (s:Shared) (H:Hp) (vs:List V) (Q:VK) (E:XK),Room k (A.deeper (envOfC a (iu st) s.heap.objs.size f b))->sp vs H Q E->
 ∃t,PSs (cxOf CX0 P w K mg base N a (iu st) f b A outer s H E).nox (lv st) t/\t { nx:=fun _ H'=>Q .non H',rt:=Q } (start N vs) H):FnOk P w K mg base CX0 (k+1) f fd ps sp:=by
 obtain⟨n,od,kV,e,m,l,b,ct,i,rfl,j,hcd⟩:=F.ex;refine afp j hcd S len fun A outer s H vs Q E g d=>?_;obtain⟨t,h,q⟩:=c b A outer s H vs Q E g d;exact⟨t,h.nox,q⟩
variable{K:Ac} in
theorem Fun.binds{x a:Str}{st:Stmt}{f:Addr}{fd:FuncData}{ps:List Str}(F:Fun K x a st f fd)(h:∀(kV c e:Value) (d:Option Addr) (b ct:Value) (us:List Value),us.length=ps.length->bindArgs (CS x a (o8 st) (lv st) (iu st) .none kV c e d b ct) ⟨us,[]⟩=pure (ps.zip us)):Binds K fd ps []:=by
 obtain⟨j,od,kV,c,e,d,b,ct,g,rfl,i,hcd⟩:=F.ex;exact .all (h kV c e d b ct)
variable{K:Ac} in
theorem fun_mk{x a:Str}{st:Stmt}{f:Addr}{i:Value}{od g:Option Addr}{e:Array (Option Value)}{kV d h b ct:Value}(l:K.lookup f=some ⟨i,od,.func (CS x a (o8 st) (lv st) (iu st) .none kV d h g b ct),e⟩)(c:HF K b a=true)(k:CA K (.ref f)=true):Fun K x a st f (CS x a (o8 st) (lv st) (iu st) .none kV d h g b ct):=⟨⟨i,od,kV,d,h,g,b,ct,e,rfl,l,c⟩,k⟩
end
theorem kx(a:Room k A):A.units+1<cLine:=AN (Cc (by decide:1<=64) _) a.units
theorem l0(h:n<=1000):n<sizeLine:=AN h (by decide)
section
variable{X:Cx} in
theorem pv(i:Nat){x:Str}{pos:Pos}(b:X.N[i]? = some x:=by rfl)(a:Vis X.env.scope x:=by first|exact Or.inl rfl|exact Or.inr (Or.inl rfl)|exact Or.inr (Or.inr rfl))(hd:(x == ("__debug__" : Str))=false:=by decide)(hcd:(x == ("__classdict__" : Str))=false:=by decide):PE X (.Name x pos) (tVar i):=aew b a hd hcd
end
def Same(H H':Hp):Prop:=∀b o,H b=some o->H' b=some o
theorem Same.refl(H:Hp):Same H H:=fun _ _ h=>h
theorem Same.trans(a:Same H d)(b:Same d e):Same H e:=fun c o h=>b c o (a c o h)
theorem Same.free(e:Same H H')(h:H' l=Option.none):H l=Option.none:=by
 cases q:H l with
 | none=>rfl
 | some o =>
  rw[e l o q] at h;cases h
theorem Same.seq{K:Ac}{H H':Hp}{a:Addr}{xs:List V}(e:Same H H')(h:SqL K H a xs):SqL K H' a xs:=by
 rcases h with (h|⟨o,h⟩)|h
 . exact .inl (.inl (e _ _ h))
 . exact .inl (.inr ⟨o,e _ _ h⟩)
 . exact .inr h
set_option maxHeartbeats 16000000
def blk(X:Cx)(N:List Str)(s:Shared)(H:Hp)(sc:Scope)(cl:List (Str×Addr))(C:Addr)(ex:List Addr):Cx where
 prog:=X.prog
 w:=X.w
 K:=X.K
 mg:=X.mg
 base:=X.base
 A:=X.A
 N:=N
 s₀:=s
 H₀:=H
 env:=compEnvC sc cl C X.env
 outer:=X.stack
 stack:=X.stack
 ex:=ex
 fn:=fun _=>false
 calm:=X.calm
 pn:=[]
 xe:=fun _ _=>False
theorem xi(I:Nat->Shared->Prop)(f:∀n s,I n s->wpAny (model prog w) A (pyNext it) (fun r j=>match r with
 | none=>R (.ok .next) j
 | some v=>wpAny (model prog w) A (letOwnedTupleGo a it v) (fun _ d=>wpAny (model prog w) A (assign a env v) (fun _ p =>
  wpAny (model prog w) A (forIn b true fun c r=>if r=true then do let ok<-isTrue c env (eval c env);pure (ForInStep.yield ok) else pure (ForInStep.yield r)) (fun ok l =>
   if ok=true then wpAny (model prog w) A (eval i env) (fun x t =>
    wpAny (model prog w) A (call (.builtin "list.append") [e,x]) (fun _ q=>∃m,m<n/\I m q) (fun _ _=>False) t) (fun _ _=>False) l
   else ∃m,m<n/\I m l) (fun _ _=>False) p) (fun _ _=>False) d) (fun _ _=>False) j) (fun _ _=>False) s)(n:Nat)(h:I n s):
 codeAny (model prog w) A (.compLoop (.ListComp i [⟨a,g,b,0⟩] scope pos) 0 it e env) R s:=by
 refine codeAny_loop rfl I (fun n s C=>?_) n h;show wpAny _ A ((compTurn (.ListComp i [⟨a,g,b,0⟩] scope pos) 0 it e env).onRaise (fun x=>do noteFrame x env;theTreesLotGoes x)) _ _ s;refine wpAny_noted ?_;rw[compTurn_list];refine Aa (EO (Aa (BR (f n s C) (fun r j u=>?_) fun _ _ h'=>h'.elim)));cases r with
 | none=>exact Ae u
 | some v =>
  refine Aa (BR u (fun _ d k=>?_) fun _ _ h'=>h'.elim);refine Aa (BR k (fun _ p D=>Aa (BR D (fun ok l o=>?_) fun _ _ h'=>h'.elim)) fun _ _ h'=>h'.elim);cases ok with
  | false=>exact Ae ⟨rfl,o⟩
  | true =>
   exact Aa (Aa (BR o (fun x t z=>Aa (BR z (fun _ q y=>Ae (Ae ⟨rfl,y⟩)) fun _ _ h'=>h'.elim)) fun _ _ h'=>h'.elim))
def PTs(X:Cx)(ifs:List Expr)(t:TT):Prop :=
 ∀(pins:List (Addr×Obj)) (s:Shared) (σ:St) (H:Hp) (Q:Bool->Hp->Prop),Inv X pins σ H s->t σ H Q->
   wpAny (model X.prog X.w) X.A (forIn ifs true fun c r=>if r=true then do let ok<-isTrue c X.env (eval c X.env);pure (ForInStep.yield ok) else pure (ForInStep.yield r)) (TP X pins σ Q) X.xe s
def tYes:TT:=fun _ H Q=>Q true H
theorem a4e:PTs X [] tYes:=fun _ _ _ H _ I h=>wpAny_tests_nil ⟨H,I,h⟩
theorem a4j(h:PT X c t):PTs X [c] t:=fun a s σ H Q I q=>wpAny_tests_one (h a s σ H Q I q)
def j5(σ:St)(ix:List Nat):St:=ix.map fun j=>(σ[j]?).getD none
def qy(J:It)(H1:Hp)(σ:St)(ix:List Nat)(tc:TT)(te:TE)(Q:VK):Prop:=∀D,H1 D=none->
 ∃W:Nat->Nat->Hp->Prop,(∃m,W 0 m (upd H1 D (.lst [])))/\∀i m H,W i m H->
  (J.stop i H/\Q (.ref D) H)\/(J.go i H/\∀x H',J.yld i H x H'->tc (some x::j5 σ ix) H' fun b H2 =>
   if b=true then te (some x::j5 σ ix) H2 fun y H3=>∃ys,H3 D=some (.lst ys)/\ys.length<sizeLine/\∃m',m'<m/\W (i+1) m' (upd H3 D (.lst (ys++[y])))
   else ∃m',m'<m/\W (i+1) m' H2)
def uc(ix:List Nat)(wi:TI)(tc:TT)(te:TE):TE:=fun σ H Q=>wi σ H fun J H1=>qy J H1 σ ix tc te Q
theorem acj(I:Inv X C σ H s)(n:F.kind=.function)(W:N=x::A.map fun j=>(X.N[j]?).getD "")(a:∀y c,cl.lookup y=some c->X.env.cells.lookup y=some c)(h:∀y,((relabel F X.env).names.lookup y=some .cell\/(relabel F X.env).names.lookup y=some .free)->∃c,cl.lookup y=some c)(Q:∀j∈A,∃y,X.N[j]? = some y/\X.env.kindOf y=some .cell/\(relabel F X.env).names.lookup y=some .cell)(f:∀b∈S,FpOk X C H b)(P:∀b∈S,b<s.heap.objs.size)(O:J.Ns s.heap.objs.size m)(G:∀b o,s.heap.get? b=some o->J.get? b=some o):
 Inv (blk X N s H F cl s.heap.objs.size S) [] (none::j5 σ A) H { s with heap:=J,toks:=tk }:=by
 have fresh:H s.heap.objs.size=none:=I.hok.fresh (Ak _);refine⟨⟨I.ok.mod,n,I.ok.glob,I.ok.blt,Ak _,fun y z c J h2=>I.ok.inj y z c (a y c J) (a z c h2),fun y E=>h y E,fun y c z _=>absurd (show false=true from z) (by decide),I.ok.hd,I.ok.frames,.inl rfl,
  fun b hb=>⟨AA (P b hb),fun y c e=>(f b hb).2.2.2.2.1 y c (a y c e)⟩,I.bs,Ax I.ok.bsz I.sz,fun b o e hb=>?_,fun b hb z=>?_,I.stack,I.stkFree⟩,
  rfl,I.bare,Un.kept G,⟨m,O,fun i y v Y U e3=>?_⟩,fun y c e=>?_,fresh,fun y c e=>I.freeC y c (a y c e),fun p hp=>absurd (show p∈([]:List (Addr×Obj)) from hp) (by simp),I.hok.kept G,?_⟩
 . rcases (f b hb).2.2.2.1 with z|z
   . exact I.ok.noex b o e z
   . exact absurd (AK (As e) (Ax I.ok.bsz z)) (Bx _)
 . rcases Ah.mp (I.stkSub b z) with q|q
   . exact (f b hb).2.1 q
   . exact (f b hb).2.2.1 q
 . cases i with
   | zero =>
    have d:(some none:Option (Option V))=some (some v):=U;cases d
   | succ i =>
    have d:(j5 σ A)[i]? = some (some v):=by simpa using U
    unfold j5 at d;rw[Am] at d;cases q:A[i]? with
    | none=>rw[q] at d;cases d
    | some j =>
     rw[q] at d;have g:(σ[j]?).getD none=some v:=by simpa using d
     have e4:σ[j]? = some (some v):=by
      cases q2:σ[j]? with
      | none=>rw[q2] at g;cases g
      | some w=>rw[q2] at g;simpa using g
     obtain⟨L,E,hc,T⟩:=Q j (AE q);have ey:L=y:=by
      have t:N[i+1]? = some y:=Y;rw[W,EB,Am,q] at t;have:=A0 t;simpa [E] using this
     subst ey;obtain⟨m0,Z,R⟩:=I.loc;obtain⟨u,r,l⟩:=R j L v E e4 (.inr (.inl hc));refine⟨u,r,.inr ⟨.inl T,?_⟩⟩;rcases l with⟨k,_⟩|⟨_,c,ec,ic⟩
     . rw[hc] at k;cases k
     . obtain⟨c',D⟩:=h L (.inl T);have:=a L c' D;rw[ec] at this;cases this;obtain⟨o,M,hd⟩:=ic;exact⟨c,D,o,G c o M,hd⟩
 . obtain⟨v,o,M,hd⟩:=I.cell y c (a y c e);exact⟨v,o,G c o M,hd⟩
 . show (none::j5 σ A).length=N.length;rw[W];simp[j5]
theorem a0l(N:List Str)(hc:X.calm=true)(hi:PI X (.Name x px) E wi)(aI:∀s H C ex,PTs (blk X N s H g cl C ex) ao tc)(he:∀s H C ex,PE (blk X N s H g cl C ex) ar te)(t:g.kind=.function)(hN:N=x::ix.map fun j=>(X.N[j]?).getD "")(hnd:N.Nodup)(L:g.names.lookup x=some .local)(aH:closureFor g X.env=pure cl)(U:∀y∈g.names,y.2≠.cell)(P:∀y∈g.names,y.2=.local->g.names.lookup y.1=some .local)(aj:∀y c,cl.lookup y=some c->X.env.cells.lookup y=some c)(af:∀y,((relabel g X.env).names.lookup y=some .cell\/(relabel g X.env).names.lookup y=some .free)->∃c,cl.lookup y=some c)(av:∀j∈ix,∃y,X.N[j]? = some y/\X.env.kindOf y=some .cell/\(relabel g X.env).names.lookup y=some .cell)(hs:∀x,foldedSetIterable E X.env x=pure x)(I:Inv X k σ H s)(h:uc ix wi tc te σ H Q)(ah:∀(D C:Addr) (O:Shared) (G:Hp) (mm:Str->Option Value),Inv X k σ G O->O.heap.Ns C mm->G C=none->C≠X.env.locals->(∀z c,X.env.cells.lookup z=some c->c≠C)->X.s₀.heap.objs.size<=C->(∀p∈X.pn++k,p.1≠C)->Q (.ref D) G->compPost (model X.prog X.w) X.A X.xe use RP (.ref D) C (.ok .next) O):
 wpAny (model X.prog X.w) X.A (comprehension (.ListComp ar [⟨.Name x px,E,ao,0⟩] g pos) g X.env p0 (newList []) false (eval E X.env) use) RP X.xe s:=by
 refine Gi (use:=use) rfl hs aH t P (thn (hi k s σ H _ I h) fun v s1 h1=>thn h1 fun aO f h2=>?_);obtain⟨it,l,tn,J,M,e,I2,T,ab,f2,q2⟩:=h2;subst e;have aB:M f.heap.objs.size=none:=I2.hok.fresh (Ak _);obtain⟨W,⟨m0,w0⟩,am⟩:=q2 f.heap.objs.size aB;refine AZ ?_;have R:Inv X k σ (upd M f.heap.objs.size (.lst [])) { f with heap:=f.heap.push { cls:=.type "list",dict:=none,data:=.seq ([]:List Value).toArray } }:=by
  exact I2.lnew (its:=[]) (ys:=[]) (t':=f.toks) .nil (AH _)
 have an:∀b∈l,b<f.heap.objs.size:=fun b hb=>by
  obtain⟨o,ho,_⟩:=T.obj _ _ ab b hb;exact As ho
 have f3:∀b∈l,FpOk X k (upd M f.heap.objs.size (.lst [])) b:=fun b hb=>⟨by rw[fq (AA (an b hb))];exact (f2 b hb).1,(f2 b hb).2⟩
 generalize hs3:({ f with heap:=f.heap.push { cls:=.type "list",dict:=none,data:=.seq ([]:List Value).toArray } }:Shared)=a at R;have al:f.heap.objs.size<=a.heap.objs.size:=by rw[<- hs3];show _<=(f.heap.push _).objs.size;rw[Bj];exact Bs _
 have aC:tn 0 a.heap:=T.keep _ _ _ ab fun b _ o e=>by rw[<- hs3];exact Ab _ e
 have ac:∀b∈l,b<a.heap.objs.size:=fun b hb=>AK (an b hb) al;refine Ib U (by intro y hy;simp at hy) (fun h4 ag ae=>?_) t;have old:∀b o,a.heap.get? b=some o->h4.get? b=some o:=fun b o e=>ae.extBut b o (AA (As e)) (Ab _ e);have I4:=acj (m:=_) (tk:=a.toks+([]:List (Str×Value)).length) (N:=N) R t hN aj af av f3 ac ag old;have aq:tn 0 h4:=T.keep _ _ _ aC fun b _ o e=>old b o e;have Y:∀{H':Hp},(∀b∈l,H' b=none)->∀b∈l,FpOk (blk X N a (upd M f.heap.objs.size (.lst [])) g cl a.heap.objs.size l) [] H' b:=fun {H'} hn b hb =>
  ⟨hn b hb,AA (ac b hb),I4.ok.exfs b hb,.inl hb,fun y c e=>(I4.ok.exf b hb).2 y c e,fun p hp=>absurd (show p∈([]:List (Addr×Obj)) from hp) (by simp)⟩
 have loop:codeAny (model X.prog X.w) X.A (.compLoop (.ListComp ar [⟨.Name x px,E,ao,0⟩] g pos) 0 (.ref it) (.ref f.heap.objs.size) (compEnvC g cl a.heap.objs.size X.env))
  (compPost (model X.prog X.w) X.A X.xe use RP (.ref f.heap.objs.size) a.heap.objs.size) { a with heap:=h4,toks:=a.toks+([]:List (Str×Value)).length }:=by
  refine xi (fun n s'=>∃i v0 H',Inv (blk X N a (upd M f.heap.objs.size (.lst [])) g cl a.heap.objs.size l) [] (v0::j5 σ ix) H' s'/\tn i s'.heap/\(∀b∈l,H' b=none)/\W i n H') ?_ m0
   ⟨0,none,_,I4,aq,fun b hb=>(f3 b hb).1,w0⟩
  rintro n s5 ⟨i,v0,G,I5,ai,ak,w5⟩;rcases am i n G w5 with⟨stop,qn⟩|⟨go,step⟩
  . refine thn (T.done (blk X N a (upd M f.heap.objs.size (.lst [])) g cl a.heap.objs.size l) rfl rfl rfl hc i [] s5 _ G _ I5 (Y ak) ai stop) fun r O ⟨hr,S⟩=>?_;subst hr;obtain⟨mm,hm,_⟩:=S.loc;have I7:Inv X k σ G O:=by
     have hC:G a.heap.objs.size=none:=S.free;have aN:a.heap.get? a.heap.objs.size=none:=EY (Ak _);have up:∀b o,b≠a.heap.objs.size->O.heap.get? b=some o->O.heap.get? b=some o:=fun b o hb e=>e;have Z:∀b o,a.heap.get? b=some o->b≠a.heap.objs.size:=fun b o e=>AA (As e);have u:=S.base;refine R.call' (s':=O) (ch:=l) S.os ⟨fun b o e n hb L=>?_,fun b o e n hb L=>?_,fun b o e n L=>u.free b o e n L,fun b o e L=>?_,u.tups,u.frzs,u.tbls⟩ (fun b o e=>?_) S.bare fun b hb=>⟨(f3 b hb).2.2.2.1,(f3 b hb).2.1,(f3 b hb).2.2.2.2.1,(f3 b hb).2.2.2.2.2⟩
     . exact up b o (Z b o e) (u.keep b o e n hb L)
     . obtain⟨sl,e1⟩:=u.slot b o e n hb L;exact⟨sl,up b _ (Z b o e) e1⟩
     . obtain⟨o',e1⟩:=u.there b o e L;exact⟨o',up b _ (Z b o e) e1⟩
     . refine (S.hok b o e).stay (fun c v ay q=>up c v ?_ q) (fun _ q=>q) fun _ _ q=>q;rintro rfl;rcases ay with z|z
       . rw[<- z,hC] at e;cases e
       . rw[hC] at z;cases z
    have aw:G a.heap.objs.size=none:=S.free;have aD:a.heap.objs.size≠X.env.locals:=BX R.lt;have aG:∀z c,X.env.cells.lookup z=some c->c≠a.heap.objs.size:=fun z c e e2=>by
     obtain⟨v',q⟩:=R.cell z c e;exact absurd (e2 ▸ q.lt) (Bx _)
    exact ah _ _ O G mm I7 hm aw aD aG R.sz (fun p hp e2=>absurd (e2 ▸ As (R.pin p hp).1) (Bx _)) qn
  . refine thn (T.item (blk X N a (upd M f.heap.objs.size (.lst [])) g cl a.heap.objs.size l) rfl rfl rfl hc i [] s5 _ G _ I5 (Y ak) ai go) fun r O ⟨u,hr,h6⟩=>?_;subst hr;refine thn h6 fun _ s7 ⟨y,H7,I7,r7,y7,aa,aK⟩=>?_;have aJ:=I7.pinned (Y aK) (T.obj _ _ aa);refine FR (yc (i:=0) aJ hnd (by show N[0]? = some x;rw[hN];rfl) (.inl (CD L)) r7 (fun s8 I8=>?_) (.inr (CD L)));have ax:Inv (blk X N a (upd M f.heap.objs.size (.lst [])) g cl a.heap.objs.size l) ([]++qk l s7.heap) (some y::j5 σ ix) H7 s8:=I8;refine thn (aI _ _ _ _ _ s8 _ H7 _ ax (step y H7 y7)) fun ok s9 ⟨H9,I9,q9⟩=>?_;have F:∀{H':Hp} {s':Shared} {m':Nat},Inv (blk X N a (upd M f.heap.objs.size (.lst [])) g cl a.heap.objs.size l) ([]++qk l s7.heap) (some y::j5 σ ix) H' s'->m'<n->W (i+1) m' H'->
     ∃m,m<n/\∃i v0 H',Inv (blk X N a (upd M f.heap.objs.size (.lst [])) g cl a.heap.objs.size l) [] (v0::j5 σ ix) H' s'/\tn i s'.heap/\(∀b∈l,H' b=none)/\W i m H':=fun {H' s' m'} Ia hm wa=>by
     refine⟨m',hm,i+1,some y,H',Ia.unpinned,T.keep _ _ _ aa fun b hb o e=>(Ia.pin (b,o) (AF _ (AF _ (me hb e)))).1,fun b hb=>?_,wa⟩;obtain⟨o,e,d⟩:=T.obj _ _ aa b hb;exact (Ia.pin (b,o) (AF _ (AF _ (me hb e)))).2.1
    cases ok with
    | false =>
     rw[if_neg Ai] at q9 |-;obtain⟨m',hm,wa⟩:=q9;exact F I9 hm wa
    | true =>
     rw[if_pos rfl] at q9 |-;refine thn (he _ _ _ _ _ s9 _ H9 _ I9 q9) fun aF au ⟨z,ap,aL,aA,ys,hD,hl,m',hm,wa⟩=>?_;exact thn (kg _ au _ ap (.ref f.heap.objs.size) [z] (.ref f.heap.objs.size) [aF] (fun _ H'=>H'=upd ap f.heap.objs.size (.lst (ys++[z]))) aL rfl (.cons aA .nil) ⟨_,ys,z,rfl,rfl,hD,hl,rfl⟩)
      fun _ aM ⟨_,aP,az,_,aE⟩=>F az hm (by rw[aE];exact wa)
 subst hs3;exact Hn loop (T.self _ 0 _ _ _ aq loop)
theorem a4k(N:List Str)(hc:X.calm=true)(hi:PI X (.Name x px) f U)(q:∀s H C ex,PTs (blk X N s H a cl C ex) t T)(S:∀s H C ex,PE (blk X N s H a cl C ex) p R)(g:a.kind=.function)(L:N=x::A.map fun j=>(X.N[j]?).getD "")(hnd:N.Nodup)(F:a.names.lookup x=some .local)(r:closureFor a X.env=pure cl)(i:∀y∈a.names,y.2≠.cell)(d:∀y∈a.names,y.2=.local->a.names.lookup y.1=some .local)(l:∀y c,cl.lookup y=some c->X.env.cells.lookup y=some c)(m:∀y,((relabel a X.env).names.lookup y=some .cell\/(relabel a X.env).names.lookup y=some .free)->∃c,cl.lookup y=some c)(u:∀j∈A,∃y,X.N[j]? = some y/\X.env.kindOf y=some .cell/\(relabel a X.env).names.lookup y=some .cell)(hs:∀x,foldedSetIterable f X.env x=pure x:=by intro _;rfl):
 PE X (.ListComp p [⟨.Name x px,f,t,0⟩] a pos) (uc A U T R):=by
 intro E s σ H Q I h;rw[eval_ListComp];exact a0l N hc hi q S g L hnd F r i d l m u hs I h fun D C M O P J hm v w n hsz k G =>
  ⟨P,hm,fun W z=>⟨.ref D,O,J.turned (t':=M.toks) (it:=C) (fun b o hb e=>z.extBut b o hb e) v w (.inr hsz) n k,rfl,G⟩⟩
def Its(x:Str):It:=⟨fun i _=>i<x.cps.size,fun i H v H'=>H'=H/\∃c,x.cps[i]? = some c/\v=.str ⟨#[c]⟩,fun i _=>x.cps.size<=i⟩
theorem a9y{K:Ac}(it:Addr)(T:String)(m:T = "str_ascii_iterator" \/ T = "str_iterator"):Turn P w K N (Its x) [it] it (fun i h=>h.IsStrIter it T x t i/\i<=x.cps.size) where
 mem:=by simp
 obj:=fun i h st b hb=>by
  have e:b=it:=by simpa using hb
  subst e;obtain⟨⟨o,e,c,d⟩,_⟩:=st;exact⟨o,e,fun v z=>by rw[d] at z;cases z⟩
 keep:=fun i h h' st k=>⟨let ⟨o,ho,r⟩:=st.1;⟨o,k it (by simp) o ho,r⟩,st.2⟩
 item:=by
  intro X J F hK hc i f s σ H E I n st G;subst J F hK;obtain⟨y,f1,f2,q,p,l⟩:=n it (by simp);have hi:i<x.cps.size:=G;have fin:∀h',h'.IsStrIter it T x t (i+1)->(∀b o,b≠it->s.heap.get? b=some o->h'.get? b=some o)->∀u:Tok,∃C,some (Value.str ⟨#[x.cps[i]]⟩ u)=some C/\
   wpAny (model X.prog X.w) X.A (letOwnedTupleGo N (.ref it) C) (fun _ L=>∃v H',Inv X f σ H' L/\RelV v C/\(Its x).yld i H v H'/\(L.heap.IsStrIter it T x t (i+1)/\i+1<=x.cps.size)/\∀b∈[it],H' b=none) E { s with heap:=h',toks:=s.toks+1 }:=fun h' j kk u=>by
   have M:Inv X f σ H { s with heap:=h',toks:=s.toks+1 }:=I.turned (fun b o hb e=>kk b o hb e) y f1 q p l;obtain⟨o,e,c,d⟩:=id j;refine⟨_,rfl,yr (s:={ s with heap:=h',toks:=s.toks+1 }) e c d (by rcases m with rfl|rfl<;>decide) ⟨.str ⟨#[x.cps[i]]⟩,H,M,⟨u,rfl⟩,⟨rfl,_,by simp[hi],rfl⟩,⟨j,hi⟩,fun b hb=>?_⟩⟩;exact (n b hb).1
  rcases m with rfl|rfl
  . exact wpAny_pyNext_ascii_item st.1 (c:=x.cps[i]) (by simp[hi]) fun h' a g=>fin h' a (fun b o hb e=>g.extBut b o hb e) _
  . exact wpAny_pyNext_wide_item st.1 (c:=x.cps[i]) (by simp[hi]) fun h' a g=>fin h' a (fun b o hb e=>g.extBut b o hb e) _
 done:=by
  intro X J F hK hc i f s σ H E I n st G;subst J F hK;obtain⟨y,f1,f2,q,p,l⟩:=n it (by simp);have hi:x.cps.size<=i:=G;rcases m with rfl|rfl
  . exact wpAny_pyNext_ascii_end (I.ok.hd hc) st.1 (by simp;omega) fun h' D=>⟨rfl,I.turned (t':=s.toks) (fun b o hb e=>D b o hb e) y f1 q p l⟩
  . exact wpAny_pyNext_wide_end (I.ok.hd hc) st.1 (by simp;omega) fun h' D=>⟨rfl,I.turned (t':=s.toks) (fun b o hb e=>D b o hb e) y f1 q p l⟩
 self:=fun _ _ _ _ _ st h=>by
  rcases m with rfl|rfl
  . exact wpAny_pyIter_striter_ascii st.1 h
  . exact wpAny_pyIter_striter_wide st.1 h
def iStr(tl:TE):TI:=fun σ H R=>tl σ H fun x H1=>∃z,x=.str z/\R (Its z) H1
theorem ae8(hl:PE X l tl):PI X i l (iStr tl):=by
 intro c s σ H R I h;refine thn (hl c s σ H _ I h) fun v a ⟨x,j,d,f,k⟩=>?_;obtain⟨z,e,q⟩:=k;subst e;obtain⟨t,rfl⟩:=f;have fin:∀(o:Obj) (T:String),(T = "str_ascii_iterator" \/ T = "str_iterator")->(a.heap.push o).IsStrIter a.heap.objs.size T z t 0->PIE X c σ i R (.ref a.heap.objs.size) { a with heap:=a.heap.push o }:=fun o T g hs=>by
  refine⟨a.heap.objs.size,[a.heap.objs.size],_,_,j,rfl,d.kept (t':=a.toks) fun b o e=>Ab _ e,a9y (x:=z) (t:=t) _ T g,⟨hs,AH _⟩,fun b hb=>?_,q⟩;have e:b=a.heap.objs.size:=by simpa using hb
  subst e;exact d.fpOk (Ak _) (d.hok.fresh (Ak _))
 cases ha:z.cps.all (· < 128)
 . exact wpAny_pyIter_wide ha (fin _ _ (.inr rfl) ⟨_,An _ rfl,rfl,rfl⟩)
 . exact wpAny_pyIter_ascii ha (fin _ _ (.inl rfl) ⟨_,An _ rfl,rfl,rfl⟩)
theorem a9i(hc:X.calm=true):jz X (.builtin "all") (fun xs H Q=>∃(a:Addr) (bs:List Bool),xs=[.ref a]/\SqL X.K H a (bs.map V.bl)/\Q (.bl (bs.all id)) H):=by
 intro c s σ H xs us Q I r h;obtain⟨a,bs,rfl,hq,q⟩:=h;obtain⟨u,rfl,g⟩:=r.one;cases g;obtain⟨its,j,p,hz⟩:=I.list hq;have f:a<s.heap.objs.size:=by obtain⟨o,n,e,_⟩:=p;exact As e
 refine call_all_walk (Cp p.isList ?_);have len:bs.length=its.length:=by have:=j.length;simpa using this
 refine⟨s.heap.objs.size,_,_,_,_,_,fun i=>(bs[i]?).getD false,rfl,Ic (A:=X.A.in1) (show X.A.in1.handled=none from I.ok.hd hc) s.heap.objs.size a (AA f) its.toArray,⟨⟨_,An _ rfl,rfl,rfl⟩,p.isList.at fun o e=>Ab _ e⟩,?_,?_⟩
 . intro i v s' y E t l;have d:its[i]? = some v:=by simpa using t
   cases hb:bs[i]? with
   | none =>
    have D:=List.getElem?_eq_none_iff.mp hb;have C:=(Aw.mp d).1
    lia
   | some b =>
    obtain⟨u,k,g⟩:=j.get (i:=i) (x:=V.bl b) (by rw[Am,hb]<;>rfl);rw[d] at k;cases k;cases g;simp only[hb,Gj] at l;exact BY l
 . intro h' tk w;have e:(Ce its.toArray.size).all (fun i=>(bs[i]?).getD false)=bs.all id:=by
    rw[Aq,<- len];rw[Ct];simp only[Dv,List.mem_range,id];constructor
    . intro h b hb;obtain⟨i,hi,e⟩:=List.mem_iff_getElem.mp hb;have:=h i hi;rw[Ag hi,Gj,e] at this;exact this
    . intro h i hi;rw[Ag hi,Gj];exact h _ (C0 hi)
   have fr:FpOk X c H s.heap.objs.size:=I.fpOk (Ak _) (I.hok.fresh (Ak _));refine⟨.bl (bs.all id),H,?_,by rw[e];rfl,q⟩;have m:Inv X c σ H { s with heap:=h',toks:=tk }:=I.kept (h':=h') (t':=tk) fun b o e=>w b o (fun z=>by
    have:b=s.heap.objs.size:=by simpa using z
    exact absurd (As e) (by rw[this];exact Bx _)) (Ab _ e)
   exact m
theorem a4p(t:SetTable)(es:Array (Int×Value))(h:Int)(x:Value):(layNew t es h x).2.1.led=t.led:=by
 unfold layNew;split
 . dsimp only;unfold SetTable.orStandIn;split<;>rfl
 . rfl
theorem v6{t:SetTable}(h:t.relaid hs n=some (t',o)):t'.led=t.led/\t'.plain=t.plain:=by
 unfold SetTable.relaid SetTable.laid at h;cases e:SetTable.layClean (SetTable.sizeAbove n - 1) hs with
 | none=>rw[e] at h;cases h
 | some ow =>
  rw[e] at h;have h':=A0 h;cases h';exact⟨rfl,rfl⟩
theorem a1q(t:SetTable)(es:Array (Int×Value))(n:Nat):(relayAll t es n).2.1.led=t.led:=by
 unfold relayAll;split
 . rename_i t' o e;dsimp only;split
   . exact (v6 e).1
   . rfl
 . rfl
theorem zv(t:SetTable)(es:Array (Int×Value))(n:Nat)(hp:(relayAll t es n).2.1.plain=true):t.plain=true:=by
 unfold relayAll at hp;split at hp
 . rename_i t' o e;dsimp only at hp;split at hp
   . rw[<- (v6 e).2];exact hp
   . cases hp
 . cases hp
def mw:Value->Str
 | .str x _=>x
 | _=>⟨#[]⟩
def SSet(P:Program)(w:World)(h:Heap)(a:Addr)(ss:List Str):Prop :=
 ∃o es ep t,h.get? a=some o/\o.ExactSet/\o.data=.set es ep t/\ElemsOf (strKind P w) es.toList/\es.toList.map (fun e=>mw e.2)=ss/\ss.Nodup/\es.size<scanBound/\t.fits es.size=true/\
  t.led = !w.params.followText "set-order" /\ (1<=es.size->t.plain=false)
theorem a6h(h:(strKind P w).is x v=true):∃u,v=.str x u:=Il h
theorem a0k(h:ElemsOf (strKind P w) l)(a:e∈l):∃u,e.2=.str (mw e.2) u:=by
 obtain⟨⟨k,c,_⟩,_⟩:=h e a;obtain⟨u,b⟩:=a6h c;exact⟨u,by rw[b];rfl⟩
theorem a9o(h:ElemsOf (strKind P w) l)(x:Str):(l.findIdx? (fun e=>(strKind P w).is x e.2)).isSome=decide (x∈l.map fun e=>mw e.2):=by
 rw[Ct,List.findIdx?_isSome,DX,decide_eq_true_eq,Az];constructor
 . rintro⟨e,a,c⟩;obtain⟨u,b⟩:=a6h c;exact⟨e,a,by rw[b];rfl⟩
 . rintro⟨e,a,rfl⟩;obtain⟨u,b⟩:=a0k h a;refine⟨e,a,?_⟩;rw[b];exact FZ _ _ _ _
theorem aa8(hS:SSet P w s.heap a m)(U:m.length+1<scanBound)(h:∀h' f b,Cu a s.heap h'->SSet P w h' a f->(if x∈m then f=m else f.Perm (m++[x]))->Q b { s with heap:=h' }):
 wpAny (model P w) A (setAddHashed a (.str x u) (hashStr w x)) Q E s:=by
 obtain⟨o,es,ep,t,Y,N,hd,p,C,hnd,hb,hf,q,af⟩:=hS;have I:(strKind P w).is x (.str x u)=true:=FZ _ _ _ _;have hn:es.size=m.length:=by rw[<- C,Ad,Bi]
 unfold setAddHashed setAddHashedIn;refine AX (Aa (DN Y hd hf ?_));dsimp only;rw[byScan_of (knd:=strKind P w) rfl hb p];simp only[↓reduceIte];unfold setAddByScan;refine Aa ?_;refine Aa (Cz ?_);refine Aa (wpAny_setScan_of (knd:=strKind P w) I Y hd hf p ?_);have v:=a9o p x;rw[C] at v;cases hr:List.findIdx? (fun e=>(strKind P w).is x e.2) es.toList with
 | some j =>
  dsimp only;rw[hr] at v;have hx:x∈m:=of_decide_eq_true (Eq.symm v);refine Ae (Ae ?_);have:=h s.heap m false (IU a s.heap) ⟨o,es,ep,t,Y,N,hd,p,C,hnd,hb,hf,q,af⟩ (by rw[if_pos hx]);exact this
 | none =>
  dsimp only;rw[hr] at v;have hx:x∉m:=of_decide_eq_false (Eq.symm v);have ai:∀(b:Bool) {D:Shared} {F:Unit->Shared->Prop},F () D->wpAny (model P w) A (match b with|true=>rule "set.scan.the-table-gave-way" | false=>pure ()) F E D :=
   fun b D F hq=>by cases b<;>first|exact Ae hq|exact Cz hq
  have d:=layNew_perm t es (hashStr w x) (.str x u);have k:=layNew_fits t es (hashStr w x) (.str x u);have i:=a4p t es (hashStr w x) (.str x u);show wpAny (model P w) A _ _ E s;have hash:(strKind P w).hash x=hashStr w x:=rfl
  try rw[hash]
  generalize hL:layNew t es (hashStr w x) (.str x u)=L at d k i |-;obtain⟨c,t1,wasDummy,am⟩:=L;dsimp only at d k i |-;rw[IV] at d;have G:ElemsOf (strKind P w) c.toList:=(ElemsOf.push (knd:=strKind P w) p I rfl).perm d;have n:(c.toList.map fun e=>mw e.2).Perm (m++[x]):=by
   have:=d.map (fun e:Int×Value=>mw e.2);rw[Au,C] at this;exact this
  have Z:c.size=m.length+1:=by rw[<- Bi,d.length_eq,Aj,Bi,hn];rfl
  have O:c.size<scanBound:=by rw[Z];exact U
  have H:(c.toList.map fun e=>mw e.2).Nodup:=by
   refine n.nodup_iff.mpr ?_;rw[Cq];exact⟨hnd,by simp,fun y hy z hz e=>by rw[Ao.mp hz] at e;exact hx (e ▸ hy)⟩
  refine Aa (ai _ ?_);have tail:∀t2:SetTable,t2.fits c.size=true->t2.led=t.led->t2.plain=false->∀(g:Bool->Sem Unit),(∀(b:Bool) (D:Shared) (F:Unit->Shared->Prop),F () D->wpAny (model P w) A (g b) F E D)->
   wpAny (model P w) A (do
    storeSet a c t2
    if (!wasDummy && t2.tooFull)=true then do
        g (relayAll t2 c (CN c.size)).2.2
        storeSet a (relayAll t2 c (CN c.size)).1 (relayAll t2 c (CN c.size)).2.1
        pure (some true)
     else pure (some true)) (fun r s'=>r=some true/\∃h' f,s'={ s with heap:=h' }/\Cu a s.heap h'/\SSet P w h' a f/\f.Perm (m++[x])) E s:=by
   intro t2 aj ab S g hg;refine Aa (IW Y hd ?_ (FT O));have T:(s.heap.update a (Fd c t2)).get? a=some { o with data:=.set c (ep+1) t2 }:=by
    have:=B7 (Fd c t2) Y (by rw[IK c t2 hd];rfl);rw[IK c t2 hd] at this;exact this
   have J:=CK s.heap a (Fd c t2);split
   . have hp:=relayAll_perm t2 c (CN c.size);have R:=relayAll_fits t2 c (CN c.size);have W:=a1q t2 c (CN c.size);have hpr:=zv t2 c (CN c.size);generalize hRl:relayAll t2 c (CN c.size)=Rl at hp R W hpr |-;obtain⟨l,X,ah⟩:=Rl;dsimp only at hp R W hpr |-;have hsz:l.size=c.size:=by rw[<- Bi,hp.length_eq,Bi]
     have aa:l.size<scanBound:=by rw[hsz];exact O
     refine Aa (hg _ _ _ ?_);refine Aa (IW T rfl ?_ (FT aa));have al:((s.heap.update a (Fd c t2)).update a (Fd l X)).get? a=some { o with data:=.set l (ep+1+1) X }:=by
      have:=B7 (Fd l X) T (by rw[IK l X rfl];rfl);rw[IK (o:={ o with data:=.set c (ep+1) t2 }) l X rfl] at this;exact this
     have M:=hp.map (fun e:Int×Value=>mw e.2);refine Ae ⟨rfl,_,l.toList.map (fun e=>mw e.2),rfl,J.trans (CK _ a _),⟨_,l,ep+1+1,X,al,N,rfl,G.perm hp,rfl,M.nodup_iff.mpr H,aa,R,W.trans (ab.trans q),fun _=>?_⟩,M.trans n⟩;cases hq:X.plain with
     | false=>rfl
     | true=>rw[hpr hq] at S;cases S
   . exact Ae ⟨rfl,_,c.toList.map (fun e=>mw e.2),rfl,J,⟨_,c,ep+1,t2,T,N,rfl,G,rfl,H,O,aj,ab.trans q,fun _=>S⟩,n⟩
  have fin:∀s':Shared,(∃h' f,s'={ s with heap:=h' }/\Cu a s.heap h'/\SSet P w h' a f/\f.Perm (m++[x]))->Q true s':=by
   rintro s' ⟨h',f,rfl,ae,ak,ag⟩;exact h h' f true ae ak (by rw[if_neg hx];exact ag)
  split
  . refine Aa ?_;rw[hashByValue_scannable 8 (x:=.str x u) rfl];refine Ae ?_;dsimp only[plainKind];simp only[By,if_false];refine BR (tail { t1 with plain:=false } (SetTable.fits_plain_off k) i rfl _ ?_) (fun r s' hq=>?_) fun _ _ e=>e
    . intro b D F hq;cases b<;>first|exact Ae hq|exact Cz hq
    . obtain⟨rfl,hq⟩:=hq;exact Ae (fin s' hq)
  . rename_i ac;refine Aa (Ae ?_);simp only[↓reduceIte];refine BR (tail t1 k i (by simpa using ac) _ ?_) (fun r s' hq=>?_) fun _ _ e=>e
    . intro b D F hq;cases b<;>first|exact Ae hq|exact Cz hq
    . obtain⟨rfl,hq⟩:=hq;exact Ae (fin s' hq)
inductive Dd:List Str->List Str->Prop
 | nil:Dd [] []
 | old{xs ss:List Str}{x:Str}:Dd xs ss->x∈ss->Dd (xs++[x]) ss
 | new{xs ss ss':List Str}{x:Str}:Dd xs ss->x∉ss->ss'.Perm (ss++[x])->Dd (xs++[x]) ss'
theorem Dd.mem(h:Dd xs a):∀y,y∈a↔y∈xs:=by
 induction h with
 | nil=>intro y;exact Iff.rfl
 | old d hx ih =>
  rename_i zs a x;intro y;rw[ih y,Ap,Ao];constructor
  . exact .inl
  . rintro (q|rfl)
    . exact q
    . exact (ih y).mp hx
 | new d hx hp ih =>
  rename_i zs a b x;intro y;rw[hp.mem_iff,Ap,Ap,ih y]
theorem Dd.nodup(h:Dd xs a):a.Nodup:=by
 induction h with
 | nil=>exact E8
 | old d hx ih=>exact ih
 | new d hx hp ih =>
  rename_i zs a c x;refine hp.nodup_iff.mpr (Cq.mpr ⟨ih,by simp,fun y b z hz e=>?_⟩);rw[Ao.mp hz] at e;exact hx (e ▸ b)
theorem Dd.len(h:Dd xs a):a.length<=xs.length:=by
 induction h with
 | nil=>exact Ak _
 | old d hx ih=>rw[Aj];exact Ax ih (B9 _ _)
 | new d hx hp ih=>rw[hp.length_eq,Aj,Aj];exact Ie ih _
theorem a3u:∀{vs:List Value}{xs:List Str},StrsAre vs xs->∀(i:Nat) (v:Value),vs[i]? = some v->∃x t,xs[i]? = some x/\v=.str x t
 | _,_,.nil,i,v,h=>by simp at h
 | _,_,.cons x t r,0,v,h=>by simp at h;exact⟨x,t,rfl,h.symm⟩
 | _,_,.cons x t r,i+1,v,h=>by
  obtain⟨y,u,b,a⟩:=a3u r i v (by simpa using h);exact⟨y,u,by simpa using b,a⟩
theorem SSet.at(d:SSet P w h a e)(k:∀o,h.get? a=some o->h'.get? a=some o):SSet P w h' a e:=by
 obtain⟨o,es,ep,c,b,rest⟩:=d;exact⟨o,es,ep,c,k o b,rest⟩
theorem xo{St:Nat->Shared->Prop}(W:WalksS P w A.in1 I Q D G n Y St)(S:Addr)(u:S∉Q)(xs:List Str)(hn:xs.length=n)(C:∀i v,Y i v->∃x t,xs[i]? = some x/\v=.str x t)(hb:n+1<scanBound):
 ∀(k i:Nat) (s:Shared) (f:List Str),n - i=k->i<=n->St i s->SSet P w s.heap S f->Dd (xs.take i) f->
   (∀s' a,Moved (S::D) G s s'->SSet P w s'.heap S a->Dd xs a->R (.ok (.ret .none)) s')->
   codeAny (model P w) A (.builtin "set.update.loop" ⟨[.ref S,.ref I],[]⟩) R s:=by
 have y:S∉D:=fun h=>u (W.sub _ h);have d:∀b∈D,b∈S::D:=fun b hb=>Al _ hb;intro k;induction k with
 | zero =>
  intro i s f T hi g J hd O;have E:i=n:=by lia
  subst E;refine BI Er ?_;rw[Bw CU _];show wpAny _ A.in1 (pyNext (.ref I) >>= _) _ _ s;refine Aa (W.done s _ _ g fun s' hm=>?_);show wpAny _ A.in1 (ret Value.none) _ _ s';refine Ae (O s' f (hm.mono d) (J.at fun o e=>hm.heap S _ y e) ?_);rw[Bg (IB hn)] at hd;exact hd
 | succ k ih =>
  intro i s f T hi g J hd O;have p:i<n:=by lia
  refine BI Er ?_;rw[Bw CU _];show wpAny _ A.in1 (pyNext (.ref I) >>= _) _ _ s;refine Aa (W.item i s _ _ p g fun v s' X m hm=>?_);obtain⟨x,t,U,rfl⟩:=C i v X;have N:SSet P w s'.heap S f:=J.at fun o e=>hm.heap S _ y e;show wpAny _ A.in1 (holding [Value.str x t] (setAdd S (.str x t)) >>= _) _ _ s';refine Aa (AX ?_);unfold setAdd;refine AX ?_;refine Aa ((strKind P w).pyHash (k:=x) (FZ _ _ _ _) ?_);have hl:f.length<=i:=by have:=hd.len;rw[AQ] at this;lia
  refine aa8 (s:={ s' with toks:=s'.toks+1 }) N (by lia) fun h' a b l M c=>?_;have H:Dd (xs.take (i+1)) a:=by
   have e:xs.take (i+1)=xs.take i++[x]:=by rw[Ca,U];rfl
   rw[e];by_cases hm:x∈f
   . rw[if_pos hm] at c;rw[c];exact .old hd hm
   . rw[if_neg hm] at c;exact .new hd hm c
  refine Ae ⟨BS CU _,ih (i+1) _ a (by lia) p (W.frame _ s' _ _ m (Bs _) fun b hb o e=>?_) M H fun L r z j q=>?_⟩
  . rw[l.2 b (fun h:b=S=>u (by rw[<- h];exact hb))];exact e
  . refine O L r (Moved.trans W.gtrans ((hm.mono d).then_heap (Bs _) fun b o hb e=>?_) z) j q;rw[l.2 b (fun h:b=S=>hb (by rw[h];exact Af))];exact e
theorem xr(a:Value)(h:Q₁ (.ref s.heap.objs.size) { s with heap:=s.heap.push { cls:=.type "set",dict:=none,data:=.set #[] 0 (.fresh 0 0 (!w.params.followText "set-order")) } }):
 codeAny (model P w) A (.call (.builtin "set.__new__") ⟨[.type "set",a],[]⟩) (wants Q₁ E) s:=by
 refine codeAny_of_tree ?_;show wpAny _ A.in1 (do checkBuiltinCall "set.__new__" ⟨[.type "set",a],[]⟩;again (.builtin "set.__new__" ⟨[.type "set",a],[]⟩)) _ _ s;refine Aa (EM (PySem.F.newCall_set_1 a) (Ae ⟨BS HG _,BI PySem.F.entry_set_new ?_⟩));rw[Bw HG _];unfold Builtin.«set.__new__» Builtin.Frozenset.newClass;have b:=sub_set_self;obtain⟨hp,g,d,tk,os⟩:=s;dsimp only
 wp_walk
 refine Gk (Ae ?_);dsimp only;simp only[newObj];refine Aa (wpAny_alloc (Ae ?_));exact Ae h
set_option maxHeartbeats 16000000 in
theorem a0t(hh:A.handled=none)(hl:s.heap.IsList l items)(hi:StrsAre items.toList xs)(hb:items.size+1<scanBound)(h:∀(h':Heap) (tk:Nat) (j:List Str),SSet P w h' s.heap.objs.size j->Dd xs j->(∀b o,b<s.heap.objs.size->s.heap.get? b=some o->h'.get? b=some o)->Q (.ref s.heap.objs.size) { s with heap:=h',toks:=tk }):
 wpAny (model P w) A (call (.type "set") [.ref l]) Q E s:=by
 obtain⟨c,tl,ab⟩:=PySem.F.called_set.mro;have X:=PySem.F.called_set.made;have Y:=PySem.F.called_set.sub;refine HX (codeAny_of_tree ?_);show wpAny _ _ (callAny (.type "set") _) _ _ _;refine Ae ⟨Code.quiet_builtin _ (by decide +kernel),BI PySem.F.entry_type_call ?_⟩;rw[Around.under_plain (weight_type_call_type "set" [.ref l] []) rfl];have h1:=PySem.F.called_set.notType;have h2:=PySem.F.called_set.canCreate;have ah:=PySem.F.typeCall_set_1 (.ref l)
 repeat (any_goals (first|assumption|wp_step))
 refine DP (xr (.ref l) (E:=E) (Q₁:=fun obj s₁=>obj=.ref s.heap.objs.size/\s₁={ s with heap:=s.heap.push { cls:=.type "set",dict:=none,data:=.set #[] 0 (.fresh 0 0 (!w.params.followText "set-order")) } }) ⟨rfl,rfl⟩) fun r s₁ J=>?_;cases r with
 | error e=>exact J
 | ok fl =>
  cases fl with
  | ret obj =>
   obtain⟨rfl,rfl⟩:=J;generalize hled:(!w.params.followText "set-order")=led;have hS:(s.heap.push { cls:=.type "set",dict:=none,data:=.set #[] 0 (.fresh 0 0 led) }).get? s.heap.objs.size=some { cls:=.type "set",dict:=none,data:=.set #[] 0 (.fresh 0 0 led) }:=An _ rfl;have hT:FK { s with heap:=s.heap.push { cls:=.type "set",dict:=none,data:=.set #[] 0 (.fresh 0 0 led) } } (.ref s.heap.objs.size) "set" := ⟨_,hS,rfl⟩
   have ae:=PySem.F.called_set.init.lookup;have af:=PySem.F.called_set.init.bind (.ref s.heap.objs.size)
   repeat (any_goals (first|assumption|wp_step))
   refine DP (DY (R:=wants (fun r s₂=>r=.none/\∃h' tk j,s₂={ s with heap:=h',toks:=tk }/\SSet P w h' s.heap.objs.size j/\Dd xs j/\
    (∀b o,b<s.heap.objs.size->s.heap.get? b=some o->h'.get? b=some o)) E) PySem.F.called_set.init.plain PySem.F.entry_set_init (check_set_init_1 hT ?_)) fun r₂ s₂ d=>?_
   . obtain⟨ol,y,z,nl,p⟩:=hl;obtain⟨ac,g,M,a⟩:=ol;simp only at z p;subst z;subst p;have D:(s.heap.push { cls:=.type "set",dict:=none,data:=.set #[] 0 (.fresh 0 0 led) }).get? l=some { cls:=.type "list",dict:=g,data:=.seq items nl,slots:=a }:=Ab _ y;have aa:=PySem.F.sub_list_set;have Z:=PySem.F.sub_list_frozenset;have ag:(Value.type "list" == Value.type "dict")=false:=by decide
     have C:(s.heap.push { cls:=.type "set",dict:=none,data:=.set #[] 0 (.fresh 0 0 led) }).IsList l items:=⟨_,D,rfl,nl,rfl⟩
     unfold Builtin.«set.__init__» noKeywords Builtin.Frozenset.updateFrom;generalize hPI:pyIter=PI
     wp_walk
     subst hPI;refine Cp C ?_;refine Aa (wpAny_runValue ?_);have m:l<s.heap.objs.size:=As y;have O:A.in1.in1.in1.handled=none:=by simp[hh]
     have n:l≠(s.heap.push { cls:=.type "set",dict:=none,data:=.set #[] 0 (.fresh 0 0 led) }).objs.size:=by
      rw[Bj];exact AA (Cr m)
     have W:s.heap.objs.size∉[(s.heap.push { cls:=.type "set",dict:=none,data:=.set #[] 0 (.fresh 0 0 led) }).objs.size,l]:=by
      rw[Bj];simp only[Ah,Ao,Ay,or_false,not_or];exact⟨AA (Ci _),BX m⟩
     have G:xs.length=items.size:=by have:=hi.length;simpa using this.symm
     have H:∀(i:Nat) (v:Value),items[i]? = some v->∃x t,xs[i]? = some x/\v=.str x t:=fun i v hv=>a3u hi i v (by rw[BU];exact hv);refine xo ((Ic O _ l n items).toS) s.heap.objs.size W xs G H hb (items.size - 0) 0 _ [] (by lia) (AH _)
      ⟨⟨_,An _ rfl,rfl,rfl⟩,(C.push _)⟩ ?hS0 (by rw[DQ];exact .nil) ?hR
     case hS0 =>
      have u:((s.heap.push { cls:=.type "set",dict:=none,data:=.set #[] 0 (.fresh 0 0 led) }).push { cls:=.type "list_iterator",data:=.fields #[.ref l,.int 0 0] }).get? s.heap.objs.size
       =some { cls:=.type "set",dict:=none,data:=.set #[] 0 (.fresh 0 0 led) }:=Ab _ hS
      exact⟨_,#[],0,_,u,⟨rfl,rfl,rfl⟩,rfl,fun e he=>by simp at he,rfl,E8,by decide,by rfl,hled.symm,fun q=>absurd q (by simp)⟩
     case hR =>
      intro s' T hm k f;obtain⟨h',g',d',L,N⟩:=s';have eg:g'=s.gens:=hm.gens;have ed:d'=s.drawn:=hm.drawn;have eo:N=s.os:=hm.os;subst eg;subst ed;subst eo;show wpAny _ _ _ _ _ _;refine Ae ?_;show wpAny _ _ (ret Value.none) _ _ _;refine Ae ⟨rfl,h',L,T,rfl,k,f,fun b o hb e=>?_⟩;have I:b≠s.heap.objs.size:=AA hb;have U:b≠(s.heap.push { cls:=.type "set",dict:=none,data:=.set #[] 0 (.fresh 0 0 led) }).objs.size:=by
       rw[Bj];exact AA (Cr hb)
      exact hm.heap b o (by simp only[Ah,Ao,Ay,or_false,not_or];exact⟨I,U⟩) (Ab _ (Ab _ e))
   . cases r₂ with
     | error e=>exact d
     | ok fl₂ =>
      cases fl₂ with
      | ret r =>
       obtain⟨rfl,h',tk,j,rfl,k,f,S⟩:=d
       repeat (any_goals (first|assumption|wp_step))
       exact h _ _ j k f S
      | _=>exact d.elim
  | _=>exact J.elim
namespace SF
theorem entry_set_iter:entryFor table "set.__iter__" = some Builtin.«frozenset.__iter__» := HH (id' := "frozenset.__iter__") (by kernel_rfl) rfl (by decide +kernel) (by kernel_rfl)
theorem slot_next:Slot "set_iterator" "__next__" "set_iterator.__next__" :=
 .of (owner := "set_iterator") (n := "__next__") (by rw[Dc,Cg];kernel_rfl) (by decide +kernel) (by decide +kernel) (by decide +kernel)
  (by first|exact .inl (by decide +kernel)|exact .inr (by decide +kernel)) (by rw[E9];kernel_rfl)
theorem entry_next:entryFor table "set_iterator.__next__" = some Builtin.«set_iterator.__next__» := entryFor_of_tree (by kernel_rfl)
theorem args_next(a:Value):argsOk "set_iterator.__next__" ⟨[a],[]⟩:=by unfold argsOk;kernel_rfl
theorem slot_self:Slot "set_iterator" "__iter__" "set_iterator.__iter__" :=
 .of (owner := "set_iterator") (n := "__iter__") (by rw[Dc,Cg];kernel_rfl) (by decide +kernel) (by decide +kernel) (by decide +kernel)
  (by first|exact .inl (by decide +kernel)|exact .inr (by decide +kernel)) (by rw[E9];kernel_rfl)
theorem entry_self:entryFor table "set_iterator.__iter__" = some Builtin.«dict_keyiterator.__iter__» :=
 HH (id' := "dict_keyiterator.__iter__") (by kernel_rfl) rfl (by decide +kernel) (by kernel_rfl)
theorem args_self(a:Value):argsOk "set_iterator.__iter__" ⟨[a],[]⟩:=by unfold argsOk;kernel_rfl
theorem set_len:typeLookup (.type "set") "__len__" = pure (some (.builtin "set.__len__")):=by rw[Dc,Cg];kernel_rfl
theorem sub_set:isSubtype (.type "set") (.type "set")=pure true:=by rw[E9];kernel_rfl
end SF
open PySem PySem.Spec PyProof.Rows
theorem uo:∀(l:List α) (i:Nat) (h:i<l.length),(l[i]::l.eraseIdx i).Perm l
 | x::r,0,_=>DR _
 | x::r,i+1,h=>by
  have h':i<r.length:=by simpa using h
  exact (List.Perm.swap x r[i] (r.eraseIdx i)).trans ((uo r i h').cons x)
theorem xh(next:Nat->Nat):∀(a k:Nat) (left:List α) (out:Array α),left.length=a->(IL next a k left out).toList.Perm (out.toList++left)
 | 0,k,left,out,h=>by
  have e:left=[]:=B0 h;subst e;simp[IL]
 | a+1,k,left,out,h=>by
  have b:next k % left.length<left.length:=Fe _ (by lia)
  unfold IL;rw[Ag b];dsimp only;refine (xh next a (k+1) _ _ (by rw[FL b];lia)).trans ?_;rw[IV,Cb];refine List.Perm.append_left _ ?_;rw[HI];exact uo _ _ b
theorem a05(next:Nat->Nat)(xs:Array α):(pickOrder next xs).toList.Perm xs.toList:=by
 have:=xh next xs.size 0 xs.toList #[] (by simp)
 simpa [pickOrder] using this
section
theorem a53(hn:n≠0)(h:∀i d,i<n->Q i { s with drawn:=d }):wpAny (model P w) A (choose src n) Q E s:=by
 intro Γ p a;unfold choose;rw[Sem.wp_choose];exact⟨hn,h _ _ (Fe _ (Nat.pos_of_ne_zero hn))⟩
variable{P:Program}{w:World}{A:Around}{E:Value->Shared->Prop} in
theorem sx{α:Type}:∀(n:Nat) (xs:List α) (s:Shared) (Q:List α->Shared->Prop),xs.length=n->(∀ys d,ys.Perm xs->Q ys { s with drawn:=d })->wpAny (model P w) A (drawOrder n xs) Q E s
 | 0,xs,s,Q,hl,h=>by
  have e:xs=[]:=B0 hl;subst e;exact Ae (h [] s.drawn (DR _))
 | n+1,[],s,Q,hl,h=>by simp at hl
 | n+1,x::r,s,Q,hl,h=>by
  unfold drawOrder;refine Aa (a53 (by rw[hl];exact Nat.succ_ne_zero n) fun i d hi=>?_);rw[Ag hi];dsimp only;refine Aa (sx n _ _ _ (by rw[FL hi];lia) fun ys d' hp=>?_);refine Ae (h _ d' ?_);exact (hp.cons _).trans (uo _ _ hi)
end
theorem a0b:∀l:List α,(Ce l.length).filterMap (fun i=>l[i]?)=l
 | []=>rfl
 | x::r=>by
  rw[AC,List.range_succ_eq_map,Dw];simp only[List.getElem?_cons_zero];rw[IG];exact congrArg (x :: ·) (a0b r)
def a0z(first:Value)(i:Nat)(S:Addr)(n ep:Nat):Obj:={ cls:=.type "set_iterator",dict:=none,data:=.fields #[first,.int i 0,.ref S,.int n 0,.int ep 0],slots := #[] }
inductive Ord(w:World)(S:Addr)(es:Array (Int×Value))(ep:Nat)(t:SetTable)(h:Heap):Value->Nat->List Value->Prop
 | text (i:Nat):w.params.followText "set-order" = true->Ord w S es ep t h (.int 0 0) i ((pickOrder (w.params.setOrder S ep) es).toList.map (·.2))
 | drawn (i:Nat)(T:Addr)(ps:List Nat):w.params.followText "set-order" = false->IsTup h T (ps.map fun (p:Nat)=>Value.int p 0).toArray->(∀p∈ps,p<es.size)->Ord w S es ep t h (.ref T) i (ps.filterMap fun p=>(es[p]?).map (·.2))
 | none (k i:Nat):w.params.followText "set-order" = false->es.size=0->Ord w S es ep t h (.int k 0) i []
 | one0 (e:Int×Value):w.params.followText "set-order" = false->es = #[e]->Ord w S es ep t h (.int 0 0) 0 [e.2]
 | one1 (e:Int×Value)(j:Nat):w.params.followText "set-order" = false->es = #[e]->t.place = #[j]->Ord w S es ep t h (.int (j+1:Nat) 0) 1 [e.2]
def aba(P:Program)(w:World)(S I T0:Addr)(es:Array (Int×Value))(ep:Nat)(t:SetTable)(ord:List Value)(i:Nat)(h:Heap):Prop :=
 ∃first o,h.get? I=some (a0z first i S es.size ep)/\h.get? S=some o/\o.data=.set es ep t/\Ord w S es ep t h first i ord/\∀T,first=.ref T->T=T0
theorem aee(j:Nat):Fq #[j] (j+1)=1:=by
 simp[Fq,IX]
theorem aed(j:Nat):Fq #[j] 0=0:=by
 simp[Fq,IX]
theorem vg(h:Q (w.params.followText "set-order") s):wpAny (model P w) A setsByText Q E s:=by
 unfold setsByText;exact Aa (Gk (Ae h))
theorem zc{k:Nat}(p:s.heap.get? S=some o)(hd:o.data=.set es ep t)(g:t.fits es.size=true)(b:t.led = !w.params.followText "set-order")(od:Ord w S es ep t s.heap (.int (k:Int) 0) i d)(h:∀m:Nat,(∀v,d[i]? = some v->Ord w S es ep t s.heap (.int (m:Int) 0) (i+1) d)->Q ((d[i]?).map fun v=>(v,m)) s):wpAny (model P w) A (setNext S k i ep) Q E s:=by
 unfold setNext;refine Aa (DN p hd g ?_);dsimp only;refine Aa (vg ?_);generalize hk:(k:Int)=q at od;generalize hfst:Value.int q 0=first at od
 cases od with
 | text i ht =>
  cases hfst;obtain rfl:k=0:=by lia
  rw[ht];simp only[if_true,bne_self_eq_false,By,if_false];unfold setWalk;refine Aa ?_;refine Aa (DN p hd g ?_);dsimp only;refine Aa (vg ?_);rw[ht];simp only[if_true];refine Aa (Gk (Ae ?_));refine Ae ?_;have:=h 0 fun v _=>Ord.text (i+1) ht;rw[Am,BU] at this;rw[Option.map_map] at this;exact this
 | drawn=>cases hfst
 | none m i ht h0 =>
  cases hfst;rw[ht];have r:es = #[]:=Ff h0;subst r;have hl:t.led=true:=by rw[b,ht];rfl
  rw[if_neg Ai];split
  . rename_i c;have a:(!t.plain && decide ((#[]:Array (Int×Value)).size>1))=true:=c;simp at a
  . refine Aa (show wpAny (model P w) A (if (!t.led && !(#[]:Array (Int×Value)).isEmpty)=true then unsupported "set:maker-not-led" else pure ()) _ _ _ from ?_);rw[hl];refine Ae (Ae ?_);have:=h k fun v e=>by simp at e
    simpa using this
 | one0 e ht he =>
  cases hfst;obtain rfl:k=0:=by lia
  rw[ht];subst he;have hl:t.led=true:=by rw[b,ht];rfl
  have f:t.place.size=1:=by
   simp only[SetTable.fits,BO,beq_iff_eq] at g;exact g.1
  obtain⟨j,n⟩:∃j,t.place = #[j]:=by
   generalize t.place=pl at f;obtain⟨l⟩:=pl
   match l,f with
   | [j],_=>exact⟨j,rfl⟩
  rw[if_neg Ai];split
  . rename_i c;have a:(!t.plain && decide ((#[e]:Array (Int×Value)).size>1))=true:=c;simp at a
  . refine Aa (show wpAny (model P w) A (if (!t.led && !(#[e]:Array (Int×Value)).isEmpty)=true then unsupported "set:maker-not-led" else pure ()) _ _ _ from ?_);rw[hl];refine Ae (Ae ?_);rw[n,aed];exact h (j+1) fun v _=>Ord.one1 e j ht rfl n
 | one1 e j ht he hp =>
  cases hfst;obtain rfl:k=j+1:=by lia
  rw[ht];subst he;have hl:t.led=true:=by rw[b,ht];rfl
  rw[if_neg Ai];split
  . rename_i c;have a:(!t.plain && decide ((#[e]:Array (Int×Value)).size>1))=true:=c;simp at a
  . refine Aa (show wpAny (model P w) A (if (!t.led && !(#[e]:Array (Int×Value)).isEmpty)=true then unsupported "set:maker-not-led" else pure ()) _ _ _ from ?_);rw[hl];refine Ae (Ae ?_);rw[hp,aee];exact h 0 fun v e=>by simp at e
theorem Ord.keep(od:Ord w S es ep t h first i a)(k:∀T o,first=.ref T->h.get? T=some o->h'.get? T=some o):Ord w S es ep t h' first i a:=by
 cases od with
 | text i ht=>exact .text i ht
 | drawn i T ps ht hT hp =>
  obtain⟨o,e,c⟩:=hT;exact .drawn i T ps ht ⟨o,k T o rfl e,c⟩ hp
 | none kk i ht h0=>exact .none kk i ht h0
 | one0 e ht he=>exact .one0 e ht he
 | one1 e j ht he hp=>exact .one1 e j ht he hp
theorem Ord.kind(od:Ord w S es ep t h first i a):
 (∃k:Nat,first=.int (k:Int) 0)\/∃(T:Addr) (ps:List Nat),first=.ref T/\w.params.followText "set-order" = false/\IsTup h T (ps.map fun (p:Nat)=>Value.int p 0).toArray/\(∀p∈ps,p<es.size)/\a=ps.filterMap fun p=>(es[p]?).map (·.2):=by
 cases od with
 | text i ht=>exact .inl ⟨0,rfl⟩
 | drawn i T ps ht hT hp=>exact .inr ⟨T,ps,rfl,ht,hT,hp,rfl⟩
 | none k i ht h0=>exact .inl ⟨k,rfl⟩
 | one0 e ht he=>exact .inl ⟨0,rfl⟩
 | one1 e j ht he hp=>exact .inl ⟨j+1,rfl⟩
theorem Ord.step(od:Ord w S es ep t h (.ref T) i a):Ord w S es ep t h (.ref T) (i+1) a:=by
 cases od with
 | drawn i T ps ht hT hp=>exact .drawn (i+1) T ps ht hT hp
theorem a1z{es:Array (Int×Value)}:∀{ps:List Nat},(∀p∈ps,p<es.size)->∀(i:Nat),(ps.filterMap fun p=>(es[p]?).map (·.2))[i]? = (ps[i]?).bind fun p=>(es[p]?).map (·.2)
 | [],_,i=>by simp
 | p::r,hp,i=>by
  have a:p<es.size:=hp p (by simp);have e:es[p]? = some es[p]:=by simp[a]
  rw[Dw,e];cases i with
  | zero=>simp[e]
  | succ i=>simpa using a1z (fun q hq=>hp q (Al _ hq)) i
theorem a6t(hh:A.handled=none)(fp:List Addr)(hI:I∈fp)(hS:S∈fp)(R:S≠I)(W:t.fits es.size=true)(J:t.led = !w.params.followText "set-order")(hT:T0∈fp)(ab:T0≠I):
 Walks P w A I fp [I] c.length (fun i v=>c[i]? = some v) (aba P w S I T0 es ep t c) where
 sub:=fun b hb=>by rw[Ao.mp hb];exact hI
 frame:=fun i h h' st Z=>by
  obtain⟨first,o,g,r,n,H,N⟩:=st;exact⟨first,o,Z I hI _ g,Z S hS _ r,n,H.keep (fun T o e q=>Z T (by rw[N T e];exact hT) o q),N⟩
 item:=fun i s Q E hi st U=>by
  obtain⟨first,o,g,r,n,H,N⟩:=st;have ty:s.TypeIs (.ref I) "set_iterator" := ⟨_,g,rfl⟩
  unfold pyNext;refine Aa (Di (Bm (name:=Bf "__next__") ty SF.slot_next (Bp SF.slot_next ty SF.entry_next ?_ (SF.args_next _))));show wpAny _ _ (fieldsOf (.ref I) >>= _) _ _ s;refine Aa (Fs g rfl ?_);show wpAny _ _ (setEntries S >>= _) _ _ s;refine Aa (Fm r n W ?_);simp only[bne_self_eq_false,By,if_false];have L:c[i]? = some c[i]:=Ag hi;rcases H.kind with⟨k,rfl⟩|⟨T,ps,rfl,ht,O,hps,u⟩
  . show wpAny _ _ (setNext S (DC (k:Int)) (DC (i:Int)) (DC (ep:Int)) >>= _) _ _ s;simp only[Bo];refine Aa (zc r n W J H fun k' Y=>?_);rw[L];show wpAny _ _ (setField (.ref I) 0 (rawInt k') >>= _) _ _ s;refine Aa (Bq g (by simp) fun ha F j=>?_);refine Aa (Bq F (by simp) fun hb C f=>?_);refine Ae ⟨_,rfl,Ae (U _ hb s.toks L ⟨.int (k':Int) 0,o,C,?_,n,(Y _ L).keep (fun T o e=>by cases e),(fun T e=>by cases e)⟩ fun b o l e=>?_)⟩
    . rw[f.2 S R,j.2 S R];exact r
    . have:b≠I:=fun z=>l (by simp[z]);rw[f.2 b this,j.2 b this];exact e
  . have X:T≠I:=by rw[N T rfl];exact ab
    have G:=a1z hps i;rw[<- u,L] at G;cases d:ps[i]? with
    | none=>rw[d] at G;cases G
    | some p =>
     rw[d] at G;have hp:p<es.size:=hps p (AE d);have D:es[p]? = some es[p]:=by simp[hp]
     have y:some c[i]=(es[p]?).map (·.2):=G;rw[D] at y;have aa:c[i]=es[p].2:=A0 y;show wpAny _ _ (seqItems? (.ref T) >>= _) _ _ s;obtain⟨oT,eT,cT,nT,dT⟩:=O;refine Aa (Bl eT dT ?_);dsimp only;have M:((ps.map fun (p:Nat)=>Value.int p 0).toArray)[DC (i:Int)]? = some (.int (p:Int) 0):=by
      rw[Bo,CB,Am,d];rfl
     rw[M];show wpAny _ _ (setNextDrawn S (DC (p:Int)) (DC (ep:Int)) >>= _) _ _ s;simp only[Bo];unfold setNextDrawn;refine Aa (Aa (DN r n W ?_));simp only[bne_self_eq_false,By,if_false];rw[D];refine Ae ?_;refine Aa (Bq g (by simp) fun hb C f=>?_);refine Ae ⟨_,rfl,Ae (U _ hb s.toks (by rw[L,aa];rfl) ⟨.ref T,o,C,?_,n,H.step.keep (fun T' o e q=>?_),N⟩ fun b o l e=>?_)⟩
     . rw[f.2 S R];exact r
     . cases e;rw[f.2 T X];exact q
     . have:b≠I:=fun z=>l (by simp[z]);rw[f.2 b this];exact e
 done:=fun s Q E st U=>by
  obtain⟨first,o,g,r,n,H,N⟩:=st;have ty:s.TypeIs (.ref I) "set_iterator" := ⟨_,g,rfl⟩
  have L:c[c.length]? = none:=Bu (Ak _);have stop:∀h':Heap,(∀b o,b≠I->s.heap.get? b=some o->h'.get? b=some o)->wpAny (model P w) A.in1 (do raiseNew (<- newExc (.type "StopIteration") []):Sem Fin) (fun _ _=>False)
   (fun x s'=>wpAny (model P w) A (do let b<-isInstance x (.type "StopIteration");if b=true then pure Option.none else throw x) Q E s') { s with heap:=h' }:=by
   intro h' Z;refine Aa ?_;simp only[newExc,newTuple];refine Aa (AZ ?_ (by size_fits));refine Aa (m:=firstArgMember _ _) (EM (a:=Value.none) (by first|rfl|(simp only[firstArgMember];rfl)) ?_);refine AZ ?_ (by size_fits);simp only[raiseNew];refine Aa (wpAny_handled ?_);rw[show A.in1.handled=none from hh];refine Aa (Ae (wpAny_throw ?_));refine Aa (DZ (T := "StopIteration") (b:=true) ⟨_,An _ rfl,rfl⟩ Ft ?_);exact Ae (U _ _ fun b o hb e=>Ab _ (Ab _ (Z b o (fun z=>hb (by simp[z])) e)))
  unfold pyNext;refine Aa (Di (Bm (name:=Bf "__next__") ty SF.slot_next (Bp SF.slot_next ty SF.entry_next ?_ (SF.args_next _))));show wpAny _ _ (fieldsOf (.ref I) >>= _) _ _ s;refine Aa (Fs g rfl ?_);show wpAny _ _ (setEntries S >>= _) _ _ s;refine Aa (Fm r n W ?_);simp only[bne_self_eq_false,By,if_false];rcases H.kind with⟨k,rfl⟩|⟨T,ps,rfl,ht,O,hps,u⟩
  . show wpAny _ _ (setNext S (DC (k:Int)) (DC (c.length:Int)) (DC (ep:Int)) >>= _) _ _ s;simp only[Bo];refine Aa (zc r n W J H fun k' Y=>?_);rw[L];show wpAny _ _ (setField (.ref I) 2 .none >>= _) _ _ s;refine Aa (Bq g (by simp) fun ha F j=>?_);refine BR (stop ha fun b o hb e=>by rw[j.2 b hb];exact e) (fun _ _ z=>z.elim) fun x s' z=>?_;exact z
  . have d:ps[c.length]? = none:=by
     have G:=a1z hps c.length;rw[<- u,L] at G;cases d:ps[c.length]? with
     | none=>rfl
     | some p =>
      rw[d] at G;have hp:p<es.size:=hps p (AE d);have D:es[p]? = some es[p]:=by simp[hp]
      have y:(none:Option Value)=(es[p]?).map (·.2):=G;rw[D] at y;cases y
    show wpAny _ _ (seqItems? (.ref T) >>= _) _ _ s;obtain⟨oT,eT,cT,nT,dT⟩:=O;refine Aa (Bl eT dT ?_);dsimp only;have M:((ps.map fun (p:Nat)=>Value.int p 0).toArray)[DC (c.length:Int)]? = none:=by
     rw[Bo,CB,Am,d];rfl
    rw[M];show wpAny _ _ (setField (.ref I) 0 (rawInt 0) >>= _) _ _ s;refine Aa (Bq g (by simp) fun ha F j=>?_);refine Aa (Bq F (by simp) fun hb C f=>?_);refine BR (stop hb fun b o l e=>by rw[f.2 b l,j.2 b l];exact e) (fun _ _ z=>z.elim) fun x s' z=>?_;exact z
 self:=fun i s Q E st U=>by
  obtain⟨first,o,g,r,n,H,N⟩:=st;have ty:s.TypeIs (.ref I) "set_iterator" := ⟨_,g,rfl⟩
  refine FU ty SF.slot_self (Bp SF.slot_self ty SF.entry_self ?_ (SF.args_self _));show wpAny _ _ (ret (.ref I)) _ _ s;exact Ae ⟨_,rfl,"set_iterator",_,ty,SF.slot_next.lookup,U⟩
theorem a31(hS:SSet P w s.heap S W)(h:∀(h':Heap) (d':Drawn) (I:Addr) (Y:List Addr) (a:List Value) (St:Nat->Heap->Prop),(∀b o,s.heap.get? b=some o->h'.get? b=some o)->s.heap.objs.size<=I->I∈Y->(∀b∈Y,b<h'.objs.size/\(b=S\/s.heap.objs.size<=b))->
 (∀L:Around,L.handled=none->Walks P w L I Y [I] a.length (fun i v=>a[i]? = some v) St)->St 0 h'->(∃ys,StrsAre a ys/\ys.Perm W)->Q (.ref I) { s with heap:=h',drawn:=d' }):
 wpAny (model P w) A (pyIter (.ref S)) Q E s:=by
 obtain⟨o,es,ep,t,m,J,hd,X,k,hnd,hb,z,G,Z⟩:=hS;have ty:s.TypeIs (.ref S) "set" := ⟨o,m,J.1⟩
 have q:S<s.heap.objs.size:=As m;have g:∀l:List (Int×Value),(∀e∈l,e∈es.toList)->StrsAre (l.map (·.2)) (l.map fun e=>mw e.2):=by
  intro l;induction l with
  | nil=>intro _;exact .nil
  | cons e r ih =>
   intro hm;obtain⟨u,hu⟩:=a0k X (hm e (by simp));have:=StrsAre.cons (mw e.2) u (ih fun x N=>hm x (Al _ N));rw[<- hu] at this;exact this
 refine FU ty HJ (Bp HJ ty SF.entry_set_iter ?_ (PySem.F.args_set_iter_1 _));show wpAny _ _ (Gm S >>= _) _ _ s;unfold Gm;refine Aa (Aa (Fm m hd z (Ae ?_)));unfold setDrawn;refine Aa (Aa (DN m hd z ?_));dsimp only;refine Aa (vg (Ae ?_));have make:∀(first:Value) (n:Addr) (a:List Value) (f:Heap) (d1:Drawn),(∀b ob,s.heap.get? b=some ob->f.get? b=some ob)->s.heap.objs.size<=f.objs.size->(∀T,first=.ref T->T=n)->n<f.objs.size->(n=S\/s.heap.objs.size<=n)->Ord w S es ep t f first 0 a->(∃ys,StrsAre a ys/\ys.Perm W)->
  Q (.ref f.objs.size) { s with heap:=f.push (a0z first 0 S es.size ep),drawn:=d1 }:=by
  intro first n a f d1 hk hsz hT H R od j
  have aa:S≠f.objs.size:=AA (AK q hsz);have M:(f.push (a0z first 0 S es.size ep)).objs.size=f.objs.size+1:=Bj ..;refine h _ d1 f.objs.size [f.objs.size,S,n] a (aba P w S f.objs.size n es ep t a) (fun b ob e=>Ab _ (hk b ob e)) hsz (by simp) (fun b hb=>?_) (fun L hA=>?_) ⟨first,o,An _ rfl,Ab _ (hk S o m),hd,od.keep (fun T ob _ e=>Ab _ e),hT⟩ j
  . rw[M];have ab:b=f.objs.size\/b=S\/b=n:=by simpa using hb
    rcases ab with rfl|rfl|rfl
    . exact⟨Ci _,.inr hsz⟩
    . exact⟨Cr (AK q hsz),.inl rfl⟩
    . exact⟨Cr H,R⟩
  . exact a6t hA _ (by simp) (by simp) aa z G (by simp) (AA H)
 have c:∀(a:List Value),Ord w S es ep t s.heap (.int 0 0) 0 a->(∃ys,StrsAre a ys/\ys.Perm W)->Q (.ref s.heap.objs.size) { s with heap:=s.heap.push (a0z (.int 0 0) 0 S es.size ep) }:=fun a od j =>
  make (.int 0 0) S a s.heap s.drawn (fun _ _ e=>e) (Ak _) (fun T e=>by cases e) q (.inl rfl) od j
 cases hbt:w.params.followText "set-order" with
 | true =>
  simp only[Bool.not_true,Fo,By,if_false];refine Aa (Ae (Aa (FV m hd z ?_)));refine Aa (AZ (Ae ⟨_,rfl,"set_iterator",_,⟨_,An _ rfl,rfl⟩,SF.slot_next.lookup,?_⟩));refine c _ (.text 0 hbt) ⟨_,g _ (fun e y=>(a05 _ es).mem_iff.mp y),?_⟩;rw[<- k];exact (a05 _ es).map _
 | false =>
  show wpAny _ _ (if (!false && (!t.plain && decide (es.size>1)))=true then _ else _) _ _ s;by_cases O:es.size>1
  . have U:t.plain=false:=Z (by lia);rw[if_pos (by simp[U,O])];refine Aa (sx es.size (Ce es.size) s _ (by simp) fun ps d hps=>?_);have C:ps.length=es.size:=by rw[hps.length_eq,EH]
    refine Aa (AZ ?_ ?_)
    . refine (Aa (FV (s:={ s with heap:=s.heap.push _,drawn:=d }) (Ab _ m) hd z ?_));refine Aa (AZ (Ae ⟨_,rfl,"set_iterator",_,⟨_,An _ rfl,rfl⟩,SF.slot_next.lookup,?_⟩));have ac:∀p∈ps,p<es.size:=fun p hp=>Dq.mp (hps.mem_iff.mp hp);refine make (.ref s.heap.objs.size) s.heap.objs.size (ps.filterMap fun p=>(es[p]?).map (·.2)) (s.heap.push _) d (fun b ob e=>Ab _ e) (by rw[Bj];exact Bs _) (fun T e=>by cases e;rfl) (by rw[Bj];exact Ci _) (.inr (Ak _))
       (.drawn 0 _ ps hbt ⟨_,An _ rfl,rfl,_,rfl⟩ ac) ?_
      have e1:(ps.filterMap fun p=>(es[p]?).map (·.2))=(ps.filterMap fun p=>es[p]?).map (·.2):=by rw[List.map_filterMap]
      have D:(ps.filterMap fun p=>es[p]?).Perm es.toList:=by
       have:=hps.filterMap (fun p=>es[p]?);have e2:=a0b es.toList;simp only[BU,Bi] at e2;rw[e2] at this;exact this
      refine⟨_,by rw[e1];exact g _ (fun e y=>D.mem_iff.mp y),?_⟩;rw[<- k];exact D.map _
    . have hz:ps.length<=sizeLine:=by rw[C];exact FT hb
      show (ps.map _).toArray.size<=sizeLine;rw[Aq,Ad];exact hz
  . rw[if_neg (by simp[O])];refine Aa (Ae (Aa (FV m hd z ?_)));refine Aa (AZ (Ae ⟨_,rfl,"set_iterator",_,⟨_,An _ rfl,rfl⟩,SF.slot_next.lookup,?_⟩));by_cases f:es.size=0
    . refine c [] (.none 0 0 hbt f) ⟨[],.nil,?_⟩;rw[<- k,Ff f];exact DR _
    . obtain⟨e,y⟩:∃e,es = #[e]:=by
       obtain⟨l⟩:=es;have hl:l.length=1:=by
        have a1:¬ l.length>1:=O;have a2:¬ l.length=0:=f
        lia
       obtain⟨e,rfl⟩:=List.length_eq_one_iff.mp hl;exact⟨e,rfl⟩
      refine c [e.2] (.one0 e hbt y) ⟨[mw e.2],g [e] (fun x N=>by rw[y];exact N),?_⟩;rw[<- k,y];exact DR _
theorem a2g(hh:A.handled=none)(hS:SSet P w s.heap S O)(hl:O.length<=sizeLine)(h:∀(h':Heap) (d':Drawn) (tk:Nat) (c:List Value) (ys:List Str),(∀b o,s.heap.get? b=some o->h'.get? b=some o)->s.heap.objs.size<=h'.objs.size->StrsAre c ys->ys.Perm O->Q c { s with heap:=h',drawn:=d',toks:=tk }):
 wpAny (model P w) A (collect (.ref S)) Q E s:=by
 obtain⟨o,es,ep,t,X,p,hd,Z⟩:=id hS;have x:S<s.heap.objs.size:=As X;unfold collect;refine Aa (wpAny_runValue (BI entry_proto_collect' ?_));rw[Bw PySem.F.plain_proto_collect _];show wpAny _ A.in1 (newList [] >>= fun l=>again (.builtin "list.__iadd__" ⟨[l,.ref S],[]⟩)) _ _ s;refine Aa (AZ ?_);refine Ae ⟨BS GQ _,BI entry_list_iadd' ?_⟩;rw[Bw GQ _];generalize hH:s.heap.push { cls:=.type "list",data:=.seq ([]:List Value).toArray }=H;have m:H.objs.size=s.heap.objs.size+1:=by rw[<- hH,Bj]
 have old:∀b ob,s.heap.get? b=some ob->H.get? b=some ob:=fun b ob e=>by rw[<- hH];exact Ab _ e
 have af:SSet P w H S O:=hS.at fun o e=>old S o e;have hD:H.get? s.heap.objs.size=some { cls:=.type "list",data:=.seq #[] }:=by rw[<- hH];exact An _ rfl
 show wpAny _ A.in1 (FA (.ref s.heap.objs.size) (.ref S) (.ref s.heap.objs.size)) _ _ { s with heap:=H };unfold FA;refine Aa (CT (T := "set") (v:=.ref S) (show FK { s with heap:=H } (.ref S) "set" from⟨o,old S o X,p.1⟩) ?_);have d:Gn (.ref s.heap.objs.size) (.ref S)=false:=by simp[Gn,BX x]
 have h2:(Value.type "set" == Value.type "list")=false:=by decide
 have h3:(Value.type "set" == Value.type "tuple")=false:=by decide
 simp only[d,h2,h3,JD,By,if_false];refine Aa (a31 (s:={ s with heap:=H }) af fun h' d' I fp c St hk hI aj U W st ⟨ys,J,hp⟩=>?_);have k:FK { s with heap:=h',drawn:=d' } (.ref S) "set" := ⟨o,hk S o (old S o X),p.1⟩
 refine Aa (AX ?_);unfold Builtin.List.listLengthHint;refine Aa (He (T := "set") (v:=.ref S) k SF.set_len ?_)
 wp_delta
 refine Aa (DZ (T := "set") (v:=.ref S) (b:=true) k SF.sub_set ?_);show wpAny _ A.in1 (typeOf (Value.ref S) >>= _) _ _ _;refine Aa (CT (T := "set") (v:=.ref S) k ?_);refine Ae ?_;have ai:s.heap.objs.size≠I:=fun z=>by
  have:H.objs.size<=I:=hI;rw[m] at this
  lia
 have G:s.heap.objs.size∉fp:=fun hb=>by
  rcases (U _ hb).2 with z|z
  . exact absurd z (BX x)
  . have:H.objs.size<=s.heap.objs.size:=z;rw[m] at this
    lia
 have L:c.length=O.length:=by
  have a1:c.length=ys.length:=J.length;rw[a1,hp.length_eq]
 have key:∀(d:Heap) (j:Nat),St 0 d->(∀b ob,b≠s.heap.objs.size->h'.get? b=some ob->d.get? b=some ob)->d.get? s.heap.objs.size=some { cls:=.type "list",data:=.seq #[] j }->
  codeAny (model P w) A (.builtin "list.extend.loop" ⟨[.ref s.heap.objs.size,.ref I,.ref s.heap.objs.size],[]⟩)
   (fun r s'=>r=.ok (.ret (.ref s.heap.objs.size))/\∃a f,s'.heap.get? s.heap.objs.size=some { cls:=.type "list",data:=.seq a f }/\Q a.toList s') { s with heap:=d,drawn:=d' }:=by
  intro d j aa ah Y;refine codeAny_extend_loopS (W A.in1 hh).toS (by rw[L];exact hl) _ G _ c.length 0 _ #[] j rfl (AH _) aa Y (ItemsOf.nil _) fun s' a f hm M g=>?_;refine⟨rfl,a,f,M,?_⟩;have C:a.toList=c:=by
   refine IY fun i=>?_;rw[BU];by_cases hi:i<a.size
   . have e:a[i]? = some a[i]:=by simp[hi]
     rw[e,g.2 i _ e]
   . have ag:c.length<=i:=by have:=g.1;lia
     rw[Bu ag];simp;lia
  have ab:s'={ s with heap:=s'.heap,drawn:=d',toks:=s'.toks }:=Moved.eq_with hm;rw[C,ab];refine h s'.heap d' s'.toks c ys (fun b ob e=>?_) (BK (As M)) J hp;have q:b≠s.heap.objs.size:=AA (As e);have ae:b≠I:=fun z=>by
   have hz:H.objs.size<=b:=by rw[z];exact hI
   rw[m] at hz;exact Bx _ (AK (Cr (As e)) hz)
  exact hm.heap b ob (by simp[q,ae]) (ah b ob q (hk b ob (old b ob e)))
 have n:h'.get? s.heap.objs.size=some { cls:=.type "list",data:=.seq #[] }:=hk _ _ hD;have fin:∀(d:Heap) (j:Nat),St 0 d->(∀b ob,b≠s.heap.objs.size->h'.get? b=some ob->d.get? b=some ob)->d.get? s.heap.objs.size=some { cls:=.type "list",data:=.seq #[] j }->∀(R:Result->Shared->Prop),
  (∀s' a f,s'.heap.get? s.heap.objs.size=some { cls:=.type "list",data:=.seq a f }->Q a.toList s'->R (.ok (.ret (.ref s.heap.objs.size))) s')->
  codeAny (model P w) A (.builtin "list.extend.loop" ⟨[.ref s.heap.objs.size,.ref I,.ref s.heap.objs.size],[]⟩) R { s with heap:=d,drawn:=d' }:=by
  intro d j a1 a2 a3 R hR;refine DP (key d j a1 a2 a3) fun r s' ⟨e,a,f,N,y⟩=>?_;subst e;exact hR s' a f N y
 have last:∀(R:Result->Shared->Prop),R=R->True:=fun _ _=>trivial;refine wpAny_ite_split (fun _=>?_) (fun _=>Ae ⟨BS Ga _,fin h' 0 st (fun b ob _ e=>e) n _ fun s' a f N y=>?_⟩)
 . refine Aa (Cz ?_);refine Aa ?_;show wpAny _ _ (updateSeq s.heap.objs.size (·.push .none) >>= fun _=>updateSeq s.heap.objs.size (·.pop)) _ _ _;refine Aa (Ej n rfl ?_);have D:=B7 (E7 (·.push Value.none)) n rfl;refine Ej (hz:=by seq_fits) D rfl ?_;have ac:=B7 (E7 (·.pop)) D rfl;refine Ae ⟨BS Ga _,fin _ _ ?_ (fun b ob hb e=>?_) ac _ fun s' a f N y=>?_⟩
   . refine (W A.in1 hh).frame 0 _ _ st fun b hb o e=>?_;have u:b≠s.heap.objs.size:=fun z=>G (z ▸ hb);exact (Bv _ _ (AL u)).trans ((Bv _ _ (AL u)).trans e)
   . exact (Bv _ _ (AL hb)).trans ((Bv _ _ (AL hb)).trans e)
   . show wpAny _ A (load s.heap.objs.size >>= _) _ _ _;exact Aa (Jr N (Ae y))
 . show wpAny _ A (load s.heap.objs.size >>= _) _ _ _;exact Aa (Jr N (Ae y))
theorem a2z(C:A.handled=none)(u:SSet P w s.heap S t)(p:t.length<64)(h:∀(h':Heap) (d':Drawn) (tk:Nat) (l:Addr) (vs:List Value) (zs:List Str) (e:Nat),(∀b o,s.heap.get? b=some o->h'.get? b=some o)->s.heap.objs.size<=l->h'.get? l=some { cls:=.type "list",data:=.seq vs.toArray e }->StrsAre vs zs->zs.Perm t->sortedS zs=true->
 Q (.ref l) { s with heap:=h',drawn:=d',toks:=tk }):
 wpAny (model P w) A (call (.builtin "sorted") [.ref S]) Q E s:=by
 refine Calls.call_function_entry kind_sorted plain_sorted entry_sorted (args_sorted1 _) ?_;unfold Builtin.«sorted»;refine Aa (m:=checkCount "sorted" 1 1 _) (Ae ?_);refine Aa (a2g (A:=A.in1) (show A.in1.handled=none from C) u (by rw[Fy];lia) fun n r i a ys j f c k=>?_);have hn:a.length<64:=by
  have:a.length=ys.length:=c.length;rw[this,k.length_eq];exact p
 refine Aa (wpAny_newList ?_ (by rw[Fy];lia));have d:(n.push (seqObj "list" a.toArray 0)).get? n.objs.size=some (seqObj "list" a.toArray 0):=An _ rfl;show wpAny _ _ _ _ _ { s with heap:=n.push (seqObj "list" a.toArray 0),drawn:=r,toks:=i };refine Aa (AX (Bp slot_list_sort ⟨_,d,rfl⟩ entry_list_sort (list_sort_treeK strKind_oneLt d c.keysOf (fun H G rest e=>keyKind_strs (by rw[<- e];exact c)) hn fun g D z=>⟨_,rfl,?_⟩) (args_list_sort _)));obtain⟨zs,F,v,x⟩:=sorted_out_str c D z;refine Ae ⟨_,rfl,?_⟩;obtain⟨e,y⟩:=sortedHeap_at (out:=(arrOf g).map (·.2)) d;refine h _ r i n.objs.size ((arrOf g).map (·.2)).toList zs e (fun b o q=>?_) f y F (v.trans k) x;have hb:=As (j b o q);rw[sortedHeap_old (AA hb) (by rw[Bj];exact Cr hb)];exact Ab _ (j b o q)
def SetO(P:Program)(w:World)(a:Addr)(ss:List Str):HO:=.ext fun h=>SSet P w h a ss
theorem vk:∀{xs:List Str}{us:List Value},Vals (xs.map V.str) us->StrsAre us xs
 | [],_,h=>by cases h;exact .nil
 | x::r,_,h=>by
  cases h with
  | cons h1 h2=>obtain⟨t,rfl⟩:=h1;exact .cons x t (vk h2)
theorem vb:∀{us:List Value}{xs:List Str},StrsAre us xs->Vals (xs.map V.str) us
 | _,_,.nil=>.nil
 | _,_,.cons x t r=>.cons ⟨t,rfl⟩ (vb r)
theorem a23(hc:X.calm=true):jz X (.type "set") (fun vs H Q=>∃(a:Addr) (xs:List Str),vs=[.ref a]/\SqL X.K H a (xs.map V.str)/\xs.length+1<scanBound/\
 ∀p c,H p=none->Dd xs c->Q (.ref p) (upd H p (SetO X.prog X.w p c))):=by
 intro f s σ H vs us Q I r h;obtain⟨a,xs,rfl,hq,hz,q⟩:=h;obtain⟨u,rfl,m⟩:=r.one;cases m;obtain⟨its,g,p,_⟩:=I.list hq;have hs:=vk g;have hl:its.length=xs.length:=hs.length;refine a0t (I.ok.hd hc) p.isList (by simpa using hs) (by rw[Aq,hl];exact hz) fun h' tk c d hd j=>?_;have fr:H s.heap.objs.size=none:=I.hok.fresh (Ak _);refine⟨.ref s.heap.objs.size,upd H s.heap.objs.size (SetO X.prog X.w s.heap.objs.size c),I.laid (t':=tk) (fun b o e=>j b o (As e) e) (Ak _) ⟨d,?_,fun t n i k=>?_⟩,rfl,q _ c fr hd⟩
 . obtain⟨o,_,_,_,l,_⟩:=d;exact⟨o,l⟩
 . exact SSet.at i k
theorem rp(hc:X.calm=true):jz X (.builtin "sorted") (fun vs H Q=>∃(a:Addr) (c:List Str),vs=[.ref a]/\H a=some (SetO X.prog X.w a c)/\c.length<64/\
 ∀p zs,H p=none->zs.Perm c->sortedS zs=true->Q (.ref p) (upd H p (.lst (zs.map V.str)))):=by
 intro j s σ H vs us Q I r h;obtain⟨a,c,rfl,hq,hz,q⟩:=h;obtain⟨u,rfl,n⟩:=r.one;cases n;have m:SSet X.prog X.w s.heap a c:=(I.hok a _ hq).1;refine a2z (I.ok.hd hc) m hz fun h' d' tk l ws zs e i hl d hs hp g=>?_;have fr:H l=none:=I.hok.fresh hl;have k:zs.length<64:=by rw[hp.length_eq];exact hz
 have f:HOk X.prog X.w (upd H l (.lst (zs.map V.str))) h':=I.hok.laid (a:=l) (o:=.lst (zs.map V.str)) i hl ⟨by rw[Ad];exact BK (l0 (by lia)),ws,e,vb hs,d⟩;have un:Un (frs X.stack) [] H (upd H l (.lst (zs.map V.str))) s.heap h':=Un.laid i hl fr;exact⟨.ref l,_,I.call (g':=s.gens) (d':=d') (t':=tk) (ch:=[]) un f I.bare (fun b z=>absurd z (by simp)),rfl,q l zs fr hp g⟩
theorem Inv.track(I:Inv Y d σ H s)(hn:H a=none)(h0:Y.s₀.heap.get? a=none)(i:a≠Y.env.locals)(hc:∀x c,Y.env.cells.lookup x=some c->c≠a)(hp:∀p∈Y.pn++d,p.1≠a)(h:ObjOk Y.prog Y.w (upd H a o) s.heap a o):Inv Y d σ (upd H a o) s:=by
 have keep:∀b u,H b=some u->upd H a o b=some u:=fun b u e=>by rw[fq (g6 e hn)];exact e
 refine⟨I.ok,I.os,I.bare,⟨I.base.keep,I.base.slot,fun b ob e n g=>?_,I.base.there,fun b xs e=>keep b _ (I.base.tups b xs e),fun b ob xs e=>keep b _ (I.base.frzs b ob xs e),fun b ps e=>?_⟩,I.loc,I.cell,?_,fun x c e=>?_,fun p q=>?_,fun b u e=>?_,I.len⟩
 . have:b≠a:=fun z=>by rw[z,h0] at e;cases e
   rw[fq this];exact I.base.free b ob e n g
 . obtain⟨m,f⟩:=I.base.tbls b ps e;exact⟨m,keep b _ f⟩
 . rw[fq (AL i)];exact I.free
 . rw[fq (hc x c e)];exact I.freeC x c e
 . obtain⟨p1,p2,p3⟩:=I.pin p q;exact⟨p1,by rw[fq (hp p q)];exact p2,p3⟩
 . by_cases hb:b=a
   . subst hb;rw[ft] at e;cases e;exact h
   . rw[fq hb] at e;exact (I.hok b u e).stay (fun _ _ _ q=>q) (fun c q=>keep c _ q) fun c xs q=>keep c _ q
open PySem.Builtin PySem.Builtin.ObjectAttr PySem.Builtin.Getset_descriptor
mutual
inductive Dp(K:Ac)(H:Hp):V->PyData->Prop
 | non:Dp K H .non .none
 | bl (b:Bool):Dp K H (.bl b) (.bool b)
 | int (i:Int):Dp K H (.int i) (.int i)
 | str (x:Str):Dp K H (.str x) (.str x)
 | lst{a:Addr}{xs:List V}{ds:List PyData}:SqL K H a xs->DpAll K H xs ds->Dp K H (.ref a) (.list ds)
 | tup{a:Addr}{xs:List V}{ds:List PyData}:SqT K H a xs->DpAll K H xs ds->Dp K H (.ref a) (.tuple ds)
inductive DpAll(K:Ac)(H:Hp):List V->List PyData->Prop
 | nil:DpAll K H [] []
 | cons{v:V}{vs:List V}{d:PyData}{ds:List PyData}:Dp K H v d->DpAll K H vs ds->DpAll K H (v::vs) (d::ds)
end
mutual
theorem Dp.reads(I:Inv X pins σ H s):∀{v:V}{d:PyData},Dp X.K H v d->∀{u:Value},RelV v u->∃as,Reads s.heap u d as
 | _,_,.non,_,r=>by cases r;exact⟨_,.none⟩
 | _,_,.bl b,_,r=>by cases r;exact⟨_,.bool b⟩
 | _,_,.int i,_,r=>by obtain⟨t,rfl⟩:=r;exact⟨_,.int i t⟩
 | _,_,.str x,_,r=>by obtain⟨t,rfl⟩:=r;exact⟨_,.str x t⟩
 | _,_,.lst hs ha,_,r=>by
  cases r;obtain⟨its,rv,⟨o,n,e,hc,_,hd⟩,_⟩:=I.list hs;obtain⟨as,ra⟩:=DpAll.reads I ha rv;exact⟨_,.list e hc hd (by simpa using ra)⟩
 | _,_,.tup hs ha,_,r=>by
  cases r;obtain⟨its,rv,⟨o,e,hc,n,hd⟩,_⟩:=I.tuple hs;obtain⟨as,ra⟩:=DpAll.reads I ha rv;exact⟨_,.tuple e hc hd (by simpa using ra)⟩
theorem DpAll.reads(I:Inv X pins σ H s):∀{vs:List V}{ds:List PyData},DpAll X.K H vs ds->∀{us:List Value},Vals vs us->∃as,ReadsAll s.heap us ds as
 | _,_,.nil,_,r=>by cases r;exact⟨_,.nil⟩
 | _,_,.cons h1 h2,_,r=>by
  cases r with
  | cons r1 r2 =>
   obtain⟨as,q1⟩:=Dp.reads I h1 r1;obtain⟨bs,q2⟩:=DpAll.reads I h2 r2;exact⟨_,.cons q1 q2⟩
end
def EqOk(d:PyData):Prop:=d.canLay0=true/\d.depth<=16
def rNeD(K:Ac):R2:=fun x y H Q=>∃dx dy,Dp K H x dx/\Dp K H y dy/\EqOk dx/\EqOk dy/\Q (.bl (!PyData.eqv dx dy)) H
theorem aex(l:X.A.units+32<cLine):OpR X (compareOp .NotEq) (rNeD X.K):=by
 intro a s σ H x y v u Q I f g h;obtain⟨dx,d,j,i,b,e,q⟩:=h;obtain⟨as,c⟩:=Dp.reads I j f;obtain⟨bs,k⟩:=Dp.reads I i g;exact SeqAt.compareNe_reads c k b.1 e.1 (by have:=b.2;have:=Nat.min_le_left dx.depth d.depth;lia) ⟨.bl _,H,I,rfl,q⟩
def RowAt(K:Ac)(H:Hp)(a:Addr)(r:List Str):Prop:=SqT K H a (r.map V.str)
def RowsAt(K:Ac)(H:Hp)(a:Addr)(rs:List (List Str)):Prop:=∃as:List Addr,H a=some (.lst (as.map V.ref))/\Paired (fun b r=>RowAt K H b r) as rs
def adn(K:Ac)(H:Hp)(a:Addr)(rss:List (List (List Str))):Prop:=∃as:List Addr,SqT K H a (as.map V.ref)/\Paired (fun b rs=>RowsAt K H b rs) as rss
theorem Same.seqT{K:Ac}(e:Same H H')(h:SqT K H a xs):SqT K H' a xs:=by
 rcases h with (h|⟨o,h⟩)|h
 . exact .inl (.inl (e _ _ h))
 . exact .inl (.inr ⟨o,e _ _ h⟩)
 . exact .inr h
theorem RowAt.same{K:Ac}(h:RowAt K H a r)(e:Same H H'):RowAt K H' a r:=e.seqT h
theorem RowsAt.same{K:Ac}(h:RowsAt K H a rs)(e:Same H H'):RowsAt K H' a rs:=by
 obtain⟨as,d,c⟩:=h;exact⟨as,e _ _ d,Paired.mapP c fun b r z=>z.same e⟩
theorem gc(h:H p=none)(o:HO):Same H (upd H p o):=fun b u q=>by rw[fq (g6 q h)];exact q
def a0x(K:Ac)(w:World)(a:Addr)(kvs:List (Str×V)):Prop :=
 ∃es n,K.lookup a=some ⟨.type "dict",none,.dict es n,#[]⟩/\Hf w.params es.toList/\(a == sysModules)=false/\∀x,RelO (kvs.lookup x) (findBy BW es x)
def abm(X:Cx)(to:TE)(t:TA):TE:=fun σ H Q=>to σ H fun x H1=>∃a kvs,x=.ref a/\a0x X.K X.w a kvs/\t σ H1 fun ys H2=>∃z,ys=[.str z]/\Q ((kvs.lookup z).getD .non) H2
theorem ade(G:PE X o to)(ha:PA X [e] t)(g:attributeBase o "get" X.env (eval o X.env)=eval o X.env:=by rfl)(j:((backTo b (starEach [e] X.env)).all (fun x => !x.1) && (backToKw b (keywordEach [] X.env)).all (fun x=>x.1.isSome)
 && decide ([e].length+([]:List Keyword).length+(if ([]:List Keyword).isEmpty then 0 else 1)<30))=true:=by rfl)(f:(l.endLine == b.line)=true:=by rfl)(hs:starEach [e] X.env=(false,eval e X.env)::starEach [] X.env:=by rfl)(c:(backTo b (starEach [] X.env)).any (·.1)=false:=by rfl):
 PE X (.Call (.Attribute o "get" l) [e] [] b) (abm X to t):=by
 intro d s σ H Q I h;refine Hm g j f rfl (thn (G d s σ H _ I h) fun v q ⟨x,R,r,L,a,kvs,ex,hd,S⟩=>?_);subst ex;cases L;obtain⟨es,n,hl,D,p,C⟩:=hd;have mp:∀s':Shared,X.K.In s'.heap->s'.heap.MapOf (strKind X.prog X.w) a (fun k=>findBy BW es k):=fun s' kin=>Jv kin hl D;have m:=mp q r.kIn;refine⟨"dict","dict.get",Dx,De,HK,m.typeIs,m.noDict,?_⟩;have y:=ha b d q σ R _ r S;rw[hs] at y |-;refine Cv (by show (false || (backTo b (starEach [] X.env)).any (·.1))=false;rw[c]<;>rfl) (Dm ?_);refine thn y fun us O ⟨vs,P,A,N,z,E,M⟩=>?_;subst E;obtain⟨u,rfl,J⟩:=N.one;obtain⟨t',rfl⟩:=J;have i:=mp O A.kIn;refine Fg De i.typeIs EN (PySem.F.args_dict_get_2 _ _) (meets_dict_get (strKind X.prog X.w) a (FZ _ _ z t') p) ⟨_,i,?_⟩;have hz:=C z;refine⟨(kvs.lookup z).getD .non,P,A.tok _,?_,M⟩;cases e1:kvs.lookup z with
 | none =>
  rw[e1] at hz;cases e2:findBy BW es z with
  | none=>rfl
  | some u=>rw[e2] at hz;exact hz.elim
 | some v =>
  rw[e1] at hz;cases e2:findBy BW es z with
  | none=>rw[e2] at hz;exact hz.elim
  | some u=>rw[e2] at hz;exact hz
open PySem.Builtin.Str
def cutS(z:Str)(lo hi:Option Int):Str:=⟨((z.cps.toList.drop (HT.sIx z.length 0 lo)).take (HT.sIx z.length z.length hi - HT.sIx z.length 0 lo)).toArray⟩
theorem zj(n d:Nat)(hd:d<=n)(v:Option Int)(a:∀i,v=some i -> -(n:Int)<=i\/0<=i\/True):HT.sIx n d v<=n:=by
 cases v with
 | none=>exact hd
 | some i =>
  show (if i<0 then (i+(n:Int)).toNat else min i.toNat n)<=n;split<;>lia
theorem a20(n d:Nat)(hd:d<=n)(v:Option Int):(match v with|none=>(d:Int)|some i=>max 0 (min (if i<0 then i+(n:Int) else i) (n:Int)))=((HT.sIx n d v:Nat):Int):=by
 cases v with
 | none=>rfl
 | some i =>
  show max 0 (min (if i<0 then i+(n:Int) else i) (n:Int))=((if i<0 then (i+(n:Int)).toNat else min i.toNat n:Nat):Int)
  split<;>lia
theorem a3d(lo hi:Option Int)(n:Nat):strSliceIndices lo hi 1 n=(Ce (HT.sIx n n hi - HT.sIx n 0 lo)).map (fun k=>HT.sIx n 0 lo+k):=by
 have f:=a20 n 0 (AH _) lo;have e:=a20 n n (Ak _) hi;have key:strSliceIndices lo hi 1 n=sliceRange ((HT.sIx n 0 lo:Nat):Int) ((HT.sIx n n hi:Nat):Int) 1:=by
  rw[<- f,<- e];cases lo<;>cases hi<;>rfl
 rw[key];generalize HT.sIx n 0 lo=a;generalize HT.sIx n n hi=b;unfold sliceRange;simp only[show ((1:Int)>0)=True from by simp,if_true];by_cases h:(a:Int)<b
 . rw[if_pos h];have d:(((b:Int) - a+1 - 1) / 1).toNat=b - a:=by lia
   rw[d];refine BE fun k _=>?_
   lia
 . rw[if_neg h];have c:b - a=0:=by lia
   rw[c];rfl
theorem a6b(z:Str)(lo hi:Option Int):((strSliceIndices lo hi 1 z.length).filterMap (z.cps[·]?))=(z.cps.toList.drop (HT.sIx z.length 0 lo)).take (HT.sIx z.length z.length hi - HT.sIx z.length 0 lo):=by
 rw[a3d];have hz:z.length=z.cps.toList.length:=by simp[FY]
 have hb:HT.sIx z.length z.length hi<=z.length:=zj _ _ (Ak _) hi fun _ _=>.inr (.inr trivial);generalize HT.sIx z.length 0 lo=a at*;generalize HT.sIx z.length z.length hi=b at*;by_cases h:a<=b
 . have:=StrLaws.picks z.cps.toList (b - a) a (by lia);simpa using this
 . have e:b - a=0:=by lia
   rw[e];simp
def rSlS:V->Option Int->Option Int->Hp->VK->Prop:=fun x lo hi H Q=>∃z,x=.str z/\z.length<=sizeLine/\Q (.str (cutS z lo hi)) H
theorem a19:SlR X rSlS:=by
 intro e s σ H x v g j lo hi d Q I k hs pl D h;obtain⟨z,rfl,hz,q⟩:=h;obtain⟨t,rfl⟩:=k;refine⟨"str",_,PySem.F.slot_str_getitem.lookup,HY s z t,?_⟩;obtain⟨l,hl,f⟩:∃l:Option (Int×Tok),partValue l=g/\l.map (·.1)=lo:=by
  cases pl with
  | none=>exact⟨none,rfl,rfl⟩
  | int i t=>exact⟨some (i,t),rfl,rfl⟩
 obtain⟨u,n,A⟩:∃u:Option (Int×Tok),partValue u=j/\u.map (·.1)=hi:=by
  cases D with
  | none=>exact⟨none,rfl,rfl⟩
  | int i t=>exact⟨some (i,t),rfl,rfl⟩
 have y:s.heap.IsSlice d l u none:=by
  obtain⟨o,w,hc,hd⟩:=hs;exact⟨o,w,hc,by rw[hd,hl,n];rfl⟩
 refine getItem_meets (HY s z t) (by decide) PySem.F.slot_str_getitem PySem.F.entry_str_getitem (PySem.F.args_str_getitem_2 _ _) (meets_str_getitem_slice z t d l u none (by decide)) ⟨y,?_⟩;have a:slicePicked z l u none=strSliceIndices lo hi 1 z.length:=by
  unfold slicePicked;rw[f,A];rfl
 have b:((slicePicked z l u none).filterMap (z.cps[·]?))=(z.cps.toList.drop (HT.sIx z.length 0 lo)).take (HT.sIx z.length z.length hi - HT.sIx z.length 0 lo):=by rw[a];exact a6b z lo hi
 unfold sliceMade;split
 . rename_i r;have c:(slicePicked z l u none).length=z.length:=by simpa using r
   have eq:cutS z lo hi=z:=by
    have p:((z.cps.toList.drop (HT.sIx z.length 0 lo)).take (HT.sIx z.length z.length hi - HT.sIx z.length 0 lo))=z.cps.toList:=by
     rw[a,a3d,Ad,EH] at c;have hb:HT.sIx z.length z.length hi<=z.length:=zj _ _ (Ak _) hi fun _ _=>.inr (.inr trivial);rcases IM z.length with h0|h0
     . have:z.cps.toList=[]:=by
        have:z.cps.toList.length=0:=by simpa [FY] using h0
        exact B0 this
       rw[this];simp
     . have C:HT.sIx z.length 0 lo=0:=by lia
       have m:HT.sIx z.length z.length hi=z.length:=by lia
       rw[C,m,CO,Es];exact Bg (by simp[FY])
    unfold cutS;rw[p]
   rw[eq] at q;exact⟨.str z,H,I,⟨t,rfl⟩,q⟩
 . show (Made.str _).post _ s;rw[b];refine⟨?_,.str (cutS z lo hi),H,I.tok _,⟨_,rfl⟩,q⟩;refine Ax ?_ hz;show ((z.cps.toList.drop (HT.sIx z.length 0 lo)).take (HT.sIx z.length z.length hi - HT.sIx z.length 0 lo)).toArray.size<=z.cps.size;rw[Aq,AQ,Bc,Bi]
   lia
theorem ue:OpR X (compareOp .In) (fun x y H Q=>∃(c:Nat) (z:Str),x=.str ⟨#[c]⟩/\y=.str z/\Q (.bl (decide (c∈z.cps.toList))) H):=by
 intro a s σ H x y v u Q I b d h;obtain⟨c,z,rfl,rfl,q⟩:=h;refine a7a a s σ H _ _ v u Q I b d ⟨_,_,rfl,rfl,?_⟩;rw[StrLaws.found_one];exact q
def Glob(mg:Str->Option Value)(x:Str)(v:V):Prop:=∃u,mg x=some u/\RelV v u
theorem pe_g(h:Glob X.mg x v)(a:Gl X x:=by rfl)(hd:(x == ("__debug__" : Str))=false:=by decide):PE X (.Name x pos) (tC v):=by
 obtain⟨u,hm,r⟩:=h;exact ac3 a hm r hd
theorem a2k(a:∀y∈c.names,y.2≠.free)(b:∀y∈c.names,y.2≠.cell)(y:Str)(h:(relabel c env).names.lookup y=some .cell\/(relabel c env).names.lookup y=some .free):False:=by
 have key:∀k,(relabel c env).names.lookup y=some k->∃z∈c.names,z.2=k\/z.2=.free:=fun k e=>by
  have hm:=BQ e;obtain⟨z,hz,d⟩:=Az.mp hm;refine⟨z,hz,?_⟩;obtain⟨n,kk⟩:=z;dsimp only at d;split at d
  . rename_i hc;simp only[BO,beq_iff_eq] at hc;exact .inr hc.1.1
  . exact .inl (congrArg Prod.snd d)
 rcases h with h|h
 . obtain⟨z,hz,q|q⟩:=key _ h
   . exact b z hz q
   . exact a z hz q
 . obtain⟨z,hz,q|q⟩:=key _ h
   . exact a z hz q
   . exact a z hz q
theorem xt(hi:PI X (.Name x px) g t)(k:∀s H C ex,PTs (blk X [x] s H f [] C ex) l q)(p:∀s H C ex,PE (blk X [x] s H f [] C ex) m o)(hc:X.calm=true:=by rfl)(i:f.kind=.function:=by rfl)(r:f.names.lookup x=some .local:=by decide +kernel)(b:∀y∈f.names,y.2≠.free:=by decide +kernel)(a:∀y∈f.names,y.2≠.cell:=by decide +kernel)(d:∀y∈f.names,y.2=.local->f.names.lookup y.1=some .local:=by decide +kernel)(hs:∀x,foldedSetIterable g X.env x=pure x:=by intro _;rfl):
 PE X (.ListComp m [⟨.Name x px,g,l,0⟩] f pos) (uc [] t q o) :=
 a4k [x] hc hi k p i rfl (by simp) r (PySem.closureFor_none b) a d (fun y c e=>by simp at e) (fun y h=>(a2k b a y h).elim) (fun j n=>by simp at n) hs
structure JSeq(J:It)(I0:Hp->Prop)(xs:List V):Prop where
 go:∀i H,I0 H->i<xs.length->J.go i H
 stop:∀i H,I0 H->xs.length<=i->J.stop i H
 yld:∀i H x H',i<xs.length->I0 H->J.yld i H x H'->H'=H/\xs[i]? = some x
 stay:∀H H',I0 H->Same H H'->I0 H'
theorem a2u{K:Ac}:JSeq (Itt K a) (fun H=>SqT K H a xs) xs where
 go:=fun i H h hi=>⟨xs,xs[i],h,by simp[hi]⟩
 stop:=fun i H h hi=>⟨xs,h,hi⟩
 yld:=fun i H x H' _ h y=>⟨y.1,y.2 xs h⟩
 stay:=fun H H' h e=>e.seqT h
theorem pk{K:Ac}:JSeq (Itl K a) (fun H=>SqL K H a xs) xs where
 go:=fun i H h hi=>⟨xs,xs[i],h,by simp[hi]⟩
 stop:=fun i H h hi=>⟨xs,h,hi⟩
 yld:=fun i H x H' _ h y=>⟨y.1,y.2 xs h⟩
 stay:=fun H H' h e=>e.seq h
def u9(z:Str):List V:=z.cps.toList.map fun c=>V.str ⟨#[c]⟩
theorem a9d:JSeq (Its z) (fun _=>True) (u9 z) where
 go:=fun i H _ hi=>by simpa [u9,Its] using hi
 stop:=fun i H _ hi=>by simpa [u9,Its] using hi
 yld:=fun i H x H' _ _ y=>by
  obtain⟨e,c,hc,rfl⟩:=y;refine⟨e,?_⟩;unfold u9;rw[Am,BU,hc];rfl
 stay:=fun _ _ _ _=>trivial
def nums(lo:Int)(n:Nat):List V:=(Ce n).map fun i=>V.int (lo+(i:Nat))
theorem a21{lo:Int}:JSeq (Itr lo n) (fun _=>True) (nums lo n) where
 go:=fun i H _ hi=>by simpa [nums,Itr] using hi
 stop:=fun i H _ hi=>by simpa [nums,Itr] using hi
 yld:=fun i H x H' hi _ y=>by
  refine⟨y.1,?_⟩;have a:i<n:=by simpa [nums] using hi
  have e:x=.int (lo+i):=y.2;unfold nums;rw[Am,List.getElem?_range a,e];rfl
 stay:=fun _ _ _ _=>trivial
theorem Paired.snocP:∀{l₁:List α}{l₂:List β},Paired F l₁ l₂->F x y->Paired F (l₁++[x]) (l₂++[y])
 | _,_,.nil,h=>.cons h .nil
 | _,_,.cons h₁ t,h=>.cons h₁ (Paired.snocP t h)
def jq(D:Addr)(H H':Hp):Prop:=∀b u,H b=some u->b≠D->H' b=some u
theorem Same.x(e:Same H H')(D:Addr):jq D H H':=fun b u q _=>e b u q
theorem a1w(xs:List V)(p:V->Bool)(R:Addr->V->V->Hp->Prop)(k:JSeq J O xs)(h0:O f)(hz:xs.length<=sizeLine)(l:∀D x y H H',R D x y H->jq D H H'->R D x y H')(hc:∀x∈xs,∀d,Same f d->∀h:Bool->Hp->Prop,(∀g,Same d g->h (p x) g)->N (some x::j5 σ A) d h)(M:∀D,∀x∈xs,p x=true->∀d,Same f d->d D≠none->∀h:VK,(∀y g,Same d g->R D x y g->h y g)->L (some x::j5 σ A) d h)(I:∀D H' ys,f D=none->Same f H'->H' D=some (.lst ys)->Paired (fun x y=>R D x y H') (xs.filter p) ys->Q (.ref D) H'):
 qy J f σ A N L Q:=by
 intro D t;have put:∀H ys,Same f H->Same f (upd H D (.lst ys)):=fun H ys e b u q=>by rw[fq (g6 q t)];exact e b u q
 refine⟨fun i m H=>i<=xs.length/\m=xs.length - i/\Same f H/\∃ys,H D=some (.lst ys)/\Paired (fun x y=>R D x y H) ((xs.take i).filter p) ys,⟨xs.length,AH _,rfl,put _ _ (Same.refl _),[],ft,by simpa using Paired.nil⟩,?_⟩;rintro i m H ⟨hi,rfl,e,ys,j,hp⟩;have n:=k.stay _ _ h0 e;by_cases a:i<xs.length
 . refine .inr ⟨k.go i H n a,fun x H' s=>?_⟩;obtain⟨rfl,v⟩:=k.yld i H x H' a n s;have hm:x∈xs:=AE v;have ht:xs.take (i+1)=xs.take i++[x]:=by rw[Ca,v];rfl
   have E:ys.length<=i:=by
    have P:=AB hp;have G:=BM p (xs.take i);rw[AQ] at G
    lia
   refine hc x hm _ e _ fun g c=>?_;cases hpx:p x with
   | false =>
    rw[if_neg Ai];refine⟨xs.length - (i+1),by lia,a,rfl,e.trans c,ys,c _ _ j,?_⟩;rw[ht,DD];simp only[ES,hpx,Jw,Da,By,if_false];exact Paired.mapP hp fun x y z=>l _ _ _ _ _ z (c.x D)
   | true =>
    rw[if_pos rfl];refine M D x hm hpx _ (e.trans c) (by rw[c _ _ j];simp) _ fun y C r F=>?_;have w:jq D C (upd C D (.lst (ys++[y]))):=fun b u q hb=>by rw[fq hb];exact q
    refine⟨ys,r _ _ (c _ _ j),by lia,xs.length - (i+1),by lia,a,rfl,put _ _ (e.trans (c.trans r)),ys++[y],ft,?_⟩;rw[ht,DD];simp only[ES,hpx,Jw,if_true];exact Paired.snocP (Paired.mapP hp fun x y z=>l _ _ _ _ _ (l _ _ _ _ _ z ((c.trans r).x D)) w) (l _ _ _ _ _ F w)
 . have o:i=xs.length:=by lia
   subst o;refine .inl ⟨k.stop _ H n (Ak _),?_⟩;rw[BP] at hp;exact I D H ys t e j hp
theorem nr:∀{l:List α}{a:List β},Paired (fun x y=>y=f x) l a->a=l.map f
 | _,_,.nil=>rfl
 | _,_,.cons h t=>by rw[h,nr t];rfl
theorem ye(xs:List V)(p:V->Bool)(f:V->V)(k:JSeq J t xs)(h0:t d)(hz:xs.length<=sizeLine)(hc:∀x∈xs,∀a,Same d a->∀b:Bool->Hp->Prop,(∀c,Same a c->b (p x) c)->n (some x::j5 σ g) a b)(l:∀x∈xs,p x=true->∀a,Same d a->∀b:VK,(∀c,Same a c->b (f x) c)->j (some x::j5 σ g) a b)(s:∀D H',d D=none->Same d H'->H' D=some (.lst ((xs.filter p).map f))->Q (.ref D) H'):
 qy J d σ g n j Q :=
 a1w xs p (fun _ x y _=>y=f x) k h0 hz (fun _ _ _ _ _ h _=>h) hc (fun _ x o hp a e _ b q=>l x o hp a e b fun c r=>q _ c r rfl) fun D H' ys m e i hp=>s D H' m e (by rw[i,nr hp])
theorem acd(xs:List V)(ws:List V)(d:JSeq J A xs)(h0:A c)(hz:xs.length<=sizeLine)(hl:ws.length=xs.length)(z:∀(i:Nat) (x y:V),xs[i]? = some x->ws[i]? = some y->∀j,Same c j->∀n:VK,(∀h,Same j h->n y h)->w (some x::j5 σ v) j n)(t:∀D H',c D=none->Same c H'->H' D=some (.lst ws)->Q (.ref D) H'):qy J c σ v tYes w Q:=by
 intro D o;have put:∀H ys,Same c H->Same c (upd H D (.lst ys)):=fun H ys e b u q=>by rw[fq (g6 q o)];exact e b u q
 refine⟨fun i m H=>i<=xs.length/\m=xs.length - i/\Same c H/\H D=some (.lst (ws.take i)),⟨xs.length,AH _,rfl,put _ _ (Same.refl _),by rw[ft,DQ]⟩,?_⟩;rintro i m H ⟨hi,rfl,e,l⟩;have f:=d.stay _ _ h0 e;by_cases a:i<xs.length
 . refine .inr ⟨d.go i H f a,fun x H' k=>?_⟩;obtain⟨rfl,s⟩:=d.yld i H x H' a f k;have p:ws[i]? = some ws[i]:=Ag (by lia);unfold tYes;dsimp only;rw[if_pos rfl];refine z i x ws[i] s p _ e _ fun h r=>?_;refine⟨ws.take i,r _ _ l,by rw[AQ];lia,xs.length - (i+1),by lia,a,rfl,put _ _ (e.trans r),?_⟩;rw[ft,Ca,p];rfl
 . have g:i=xs.length:=by lia
   subst g;refine .inl ⟨d.stop _ H f (Ak _),t D H o e ?_⟩;rw[l,Bg (by lia)]
theorem adp{j}(a:PA X es t):PA X (.Constant (.str x) j pos::es) (ip (tC (.str x)) t):=jx a2q a rfl
theorem af4{j}(a:PA X es t):PA X (.Constant (.int i) j pos::es) (ip (tC (.int i)) t):=jx sj a rfl
theorem afg(h:PE X (.Name x pos) b)(a:PA X es t):PA X (.Name x pos::es) (ip b t):=jx h a rfl
theorem afn{x1}(h:PA X a t1)(b:PA X es t):PA X (.Tuple a x1 pos::es) (ip (tTup t1) t):=jx (a6z h) b rfl
theorem afh(h:PA X a t1)(b:PA X es t):PA X (.List a pos::es) (ip (tLst t1) t):=jx (a1m h) b rfl
theorem aef(h:PE X (.Subscript a b pos) d)(c:PA X es t):PA X (.Subscript a b pos::es) (ip d t):=jx h c rfl
theorem ac2(h:PE X (.Call f as ks pos) b)(a:PA X es t):PA X (.Call f as ks pos::es) (ip b t):=jx h a rfl
theorem ae0(h:PE X (.BinOp a op b pos) d)(c:PA X es t):PA X (.BinOp a op b pos::es) (ip d t):=jx h c rfl
structure QE(X:Cx)(e:Expr)(t:TE):Prop where
 run:PE X e t
structure QT(X:Cx)(e:Expr)(t:TT):Prop where
 run:PT X e t
structure QW(X:Cx)(e:Expr)(t:TT):Prop where
 run:PW X e t
structure QA(X:Cx)(es:List Expr)(t:TA):Prop where
 run:PA X es t
structure QS(X:Cx)(st:Stmt)(t:TS):Prop where
 run:PS X st t
structure QB(X:Cx)(st:List Stmt)(t:TS):Prop where
 run:PSs X st t
structure QI(X:Cx)(tg iter:Expr)(wi:TI):Prop where
 run:PI X tg iter wi
structure QG(X:Cx)(target:Expr)(t:TG):Prop where
 run:PG X target t
structure QO(X:Cx)(e:Option Expr)(t:TO):Prop where
 run:PO X e t
structure QTs(X:Cx)(ifs:List Expr)(t:TT):Prop where
 run:PTs X ifs t
theorem QW.qt(h:QW X e t):QT X e t:=⟨PW.pt h.run⟩
section
set_option relaxedAutoImplicit true
theorem iq:QB X [] a5f:=⟨a3b ⟩
theorem fw{st:Stmt}{rest:List Stmt}(b:QS X st t)(a:QB X rest u):QB X (st::rest) (tSeq t u):=⟨ul b.run a.run⟩
theorem fz{st:Stmt}(a:QS X st t):QB X [st] t:=⟨sv a.run⟩
theorem ie(hc:QT X c d)(ha:QB X a t)(hb:QB X b u):QS X (.If c a b pos) (tIfS d t u):=⟨ab0 hc.run ha.run hb.run⟩
theorem yt(b:X.N.Nodup)(hi:X.N[i]? = some x)(g:Loc X.env.scope x)(f:QE X e d)(hs:swapsWith e (some (.Name x a)) pos.line X.env=pure false:=by rfl)(c:X.fn x=true\/X.env.scope.names.lookup x=some .local:=by first|exact .inl rfl|exact .inr rfl|assumption):     QS X (.Assign [.Name x a] e pos) (tAsg d (gq i)):=⟨a8g b hi g f.run hs c⟩
theorem gu(a:QE X e te):QS X (.Return (some e) pos) (tRet te):=⟨yo a.run⟩
theorem a4f:QS X (.Return none pos) ab7:=⟨aco ⟩
theorem ik(a:QE X e te)(hs:swapsWith e none pos.line X.env=pure false:=by rfl):QS X (.Expr e pos) (mn te):=⟨a3v a.run hs⟩
theorem jw(hp:PassesOwn (model X.prog X.w) X.A X.env X.xe)(hc:X.calm=true)(hi:QI X tg a c)(d:QG X tg g)(hb:QB X body b)(hs:∀x,foldedSetIterable a X.env x=pure x:=by intro _;rfl):QS X (.For tg a body [] pos) (tFor c g b):=⟨a7f hp hc hi.run d.run hb.run hs⟩
theorem pi(d:QE X e c)(h:QG X a g)(hs:swapsWithSole [a] e pos.line X.env=pure false:=by rfl)(f:swappedStores [a] e X.env=pure none:=by rfl)(b:(assignEach [a] X.env).map (·.2)=[assign a X.env]:=by rfl):QS X (.Assign [a] e pos) (tAsg c g):=⟨aea d.run h.run hs f b⟩
theorem qi(hp:PassesOwn (model X.prog X.w) X.A X.env X.xe)(hc:QT X c a)(hb:QB X body b):QS X (.While c body [] pos) (uz a b):=⟨a99 hp hc.run hb.run⟩
theorem fu{i j pos}:QE X (.Constant (.int i) j pos) (tC (.int i)):=⟨sj ⟩
theorem ny{b j pos}:QE X (.Constant (.bool b) j pos) (tC (.bl b)):=⟨abj ⟩
theorem oq{j pos}:QE X (.Constant .none j pos) (tC .non):=⟨adz ⟩
theorem i7{x j pos}:QE X (.Constant (.str x) j pos) (tC (.str x)):=⟨a2q ⟩
theorem qv(i:Nat)(b:X.N[i]? = some x:=by rfl)(a:Vis X.env.scope x:=by first|exact Or.inl rfl|exact Or.inr (Or.inl rfl)|exact Or.inr (Or.inr rfl))(hd:(x == ("__debug__" : Str))=false:=by decide)(hcd:(x == ("__classdict__" : Str))=false:=by decide):QE X (.Name x pos) (tVar i):=⟨pv i b a hd hcd⟩
theorem qe_g(h:Glob X.mg x v)(a:Gl X x:=by rfl)(hd:(x == ("__debug__" : Str))=false:=by decide):QE X (.Name x pos) (tC v):=⟨pe_g h a hd⟩
theorem gh(c:OpR X (binaryOp op) r)(ha:QE X a ta)(hb:QE X b tb):QE X (.BinOp a op b pos) (tOp r ta tb):=⟨abl c ha.run hb.run⟩
theorem oh(c:OpR X (compareOp op) r)(ha:QE X a ta)(hb:QE X b tb)(hm:behindInMarks op b=false):QE X (.Compare a [op] [b] pos) (tOp r ta tb):=⟨we c ha.run hb.run hm⟩
theorem gi(c:OpR X (compareOp op) r)(ha:QE X a ta)(hb:QE X b tb)(hm:behindInMarks op b=false):QT X (.Compare a [op] [b] pos) (u5 (tOp r ta tb)):=⟨tf c ha.run hb.run hm⟩
theorem a29(h:QE X e t)(b:∀a,isTrue e X.env a=(do let v<-a;standAt e.pos;holding [v] (truthy v)):=by intro _;rfl):QT X e (tB t):=⟨adv h.run b⟩
theorem ng(ha:QT X a tA):QW X (.BoolOp .And [a] pos) tA:=⟨acm ha.run⟩
theorem yk(ha:QT X a tA):QW X (.BoolOp .Or [a] pos) tA:=⟨a5v ha.run⟩
theorem ph{rest:List Expr}(ha:QT X a tA)(hb:QW X (.BoolOp .And (b::rest) pos) tB'):QW X (.BoolOp .And (a::b::rest) pos) (tAnd tA tB'):=⟨ael ha.run hb.run⟩
theorem yu{rest:List Expr}(ha:QT X a tA)(hb:QW X (.BoolOp .Or (b::rest) pos) tB'):QW X (.BoolOp .Or (a::b::rest) pos) (tOr tA tB'):=⟨a4y ha.run hb.run⟩
theorem mz(hc:QT X c tA)(ha:QE X a ta)(hb:QE X b tb):QE X (.IfExp c a b pos) (tIf tA ta tb):=⟨aa1 hc.run ha.run hb.run⟩
theorem gx(c:IxR X r)(ha:QE X a ta)(hb:QE X b tb)(hs:wq b):QE X (.Subscript a b pos) (tOp r ta tb):=⟨a12 c ha.run hb.run hs⟩
theorem j8{lo:Option Expr}(b:SlR X r)(a:QE X e te)(hl:QO X lo tl)(c:QO X hi th):QE X (.Subscript e (.Slice lo hi none p2) pos) (tSl r te tl th):=⟨a1c b a.run hl.run c.run⟩
theorem jn:QO X none a00:=⟨a38 ⟩
theorem j7(h:QE X e te):QO X (some e) (a4s te):=⟨a46 h.run⟩
theorem je{x1}(h:QA X es t):QE X (.Tuple es x1 pos) (tTup t):=⟨a6z h.run⟩
theorem i8(h:QA X es t):QE X (.List es pos) (tLst t):=⟨a1m h.run⟩
theorem acf(F:FnOk X.prog X.w X.K X.mg X.base CX k f fd ps sp)(c:Room k X.A)(i:Gl X x)(hm:X.mg x=some (.ref f))(h:CA X.K (.ref f)=true)(hb:Binds X.K fd ps ds)(hd:Vals dvs ds)(d:m9 CX X E)(ha:QA X (e::es) t)(b:(x == ("__debug__" : Str))=false:=by decide)(g:starEach (e::es) X.env=(false,eval e X.env)::starEach es X.env:=by rfl)(a:(backTo pos (starEach es X.env)).any (·.1)=false:=by rfl):     QE X (.Call (.Name x p) (e::es) [] pos) (za sp dvs E t):=⟨ac5 F c i hm h hb hd d ha.run b g a⟩
theorem ii{id:String}(hc:jz X (.builtin id) r)(f:Gl X x)(hm:X.mg x=none)(c:bootBuiltins x=some (.builtin id))(ha:QA X (e::es) t)(hn:x ≠ "__name__" := by decide)(b:(x == ("__debug__" : Str))=false:=by decide)(d:starEach (e::es) X.env=(false,eval e X.env)::starEach es X.env:=by rfl)(a:(backTo pos (starEach es X.env)).any (·.1)=false:=by rfl):QE X (.Call (.Name x p) (e::es) [] pos) (tCB r t):=⟨uf hc f hm c ha.run hn b d a⟩
theorem i6(hc:jz X (.type T) r)(f:Gl X x)(hm:X.mg x=none)(c:bootBuiltins x=some (.type T))(ha:QA X (e::es) t)(hn:x ≠ "__name__" := by decide)(b:(x == ("__debug__" : Str))=false:=by decide)(d:starEach (e::es) X.env=(false,eval e X.env)::starEach es X.env:=by rfl)(a:(backTo pos (starEach es X.env)).any (·.1)=false:=by rfl):QE X (.Call (.Name x p) (e::es) [] pos) (tCB r t):=⟨a0h hc f hm c ha.run hn b d a⟩
theorem a15{id:String}(e:PlainAttrs T)(slot:Slot T name id)(c:typeOf (.builtin id)=pure (.type "method_descriptor"))(hm:MtR X id r)(d:QE X o to)(b:attributeBase o name X.env (eval o X.env)=eval o X.env:=by rfl)(a:(apos.endLine == cpos.line)=true:=by rfl):QE X (.Call (.Attribute o name apos) [] [] cpos) (tBM0 X.K T r to):=⟨af0 e slot c hm d.run b a⟩
theorem qp(hi:QI X (.Name x px) c q)(h:∀s H C ex,QTs (blk X [x] s H b [] C ex) j o)(n:∀s H C ex,QE (blk X [x] s H b [] C ex) l m)(hc:X.calm=true:=by rfl)(e:b.kind=.function:=by rfl)(p:b.names.lookup x=some .local:=by decide +kernel)(f:∀y∈b.names,y.2≠.free:=by decide +kernel)(d:∀y∈b.names,y.2≠.cell:=by decide +kernel)(a:∀y∈b.names,y.2=.local->b.names.lookup y.1=some .local:=by decide +kernel)(hs:∀x,foldedSetIterable c X.env x=pure x:=by intro _;rfl):     QE X (.ListComp l [⟨.Name x px,c,j,0⟩] b pos) (uc [] q o m):=⟨xt hi.run (fun z0 g i k=>(h z0 g i k).run) (fun z0 g i k=>(n z0 g i k).run) hc e p f d a hs⟩
theorem acl(f:QE X o to)(ha:QA X [e] t)(c:attributeBase o "get" X.env (eval o X.env)=eval o X.env:=by rfl)(d:((backTo cpos (starEach [e] X.env)).all (fun x => !x.1) && (backToKw cpos (keywordEach [] X.env)).all (fun x=>x.1.isSome)       && decide ([e].length+([]:List Keyword).length+(if ([]:List Keyword).isEmpty then 0 else 1)<30))=true:=by rfl)(b:(apos.endLine == cpos.line)=true:=by rfl)(hs:starEach [e] X.env=(false,eval e X.env)::starEach [] X.env:=by rfl)(a:(backTo cpos (starEach [] X.env)).any (·.1)=false:=by rfl):     QE X (.Call (.Attribute o "get" apos) [e] [] cpos) (abm X to t):=⟨ade f.run ha.run c d b hs a⟩
theorem mh(hl:QE X l tl):QI X tg l (a50 X.K tl):=⟨a3l hl.run⟩
theorem ae2(hl:QE X l tl):QI X tg l (iTup X.K tl):=⟨a8e hl.run⟩
theorem kd(c:Gl X "range")(hm:X.mg "range" = none)(ha:QA X [a] b)(hs:starEach [a] X.env=[(false,eval a X.env)]:=by rfl):QI X tg (.Call (.Name "range" p) [a] [] pos) (abc b):=⟨a7u c hm ha.run hs⟩
theorem a81(e:Gl X "range")(hm:X.mg "range" = none)(ha:QA X [a,b] d)(hs:starEach [a,b] X.env=[(false,eval a X.env),(false,eval b X.env)]:=by rfl)(c:starEach [b] X.env=[(false,eval b X.env)]:=by rfl):     QI X tg (.Call (.Name "range" p) [a,b] [] pos) (abd d):=⟨a6u e hm ha.run hs c⟩
theorem acb(b:X.N.Nodup)(hi:X.N[i]? = some x)(c:Loc X.env.scope x)(a:X.fn x=true\/X.env.scope.names.lookup x=some .local:=by first|exact .inl rfl|exact .inr rfl|assumption):QG X (.Name x pos) (gq i):=⟨wo b hi c a⟩
theorem ad:QA X [] tNil:=⟨oz ⟩
theorem jf(ha:QE X e te)(a:QA X es t)(hs:starEach (e::es) X.env=(false,eval e X.env)::starEach es X.env:=by rfl):QA X (e::es) (ip te t):=⟨jx ha.run a.run hs⟩
theorem i9{j}(a:QA X es t):QA X (.Constant (.str x) j pos::es) (ip (tC (.str x)) t):=⟨adp a.run⟩
theorem gs{j}(a:QA X es t):QA X (.Constant (.int i) j pos::es) (ip (tC (.int i)) t):=⟨af4 a.run⟩
theorem fy(h:QE X (.Name x pos) te)(a:QA X es t):QA X (.Name x pos::es) (ip te t):=⟨afg h.run a.run⟩
theorem oi{x1}(h:QA X es1 t1)(a:QA X es t):QA X (.Tuple es1 x1 pos::es) (ip (tTup t1) t):=⟨afn h.run a.run⟩
theorem mx(h:QA X es1 t1)(a:QA X es t):QA X (.List es1 pos::es) (ip (tLst t1) t):=⟨afh h.run a.run⟩
theorem gj(h:QE X (.Subscript a b pos) te)(c:QA X es t):QA X (.Subscript a b pos::es) (ip te t):=⟨aef h.run c.run⟩
theorem gw(h:QE X (.Call f as ks pos) te)(a:QA X es t):QA X (.Call f as ks pos::es) (ip te t):=⟨ac2 h.run a.run⟩
theorem jb(h:QE X (.BinOp a op b pos) te)(c:QA X es t):QA X (.BinOp a op b pos::es) (ip te t):=⟨ae0 h.run c.run⟩
theorem ni:QTs X [] tYes:=⟨a4e ⟩
theorem zr(h:QT X c t):QTs X [c] t:=⟨a4j h.run⟩
end
theorem yx(c:QE X o to)(hi:QE X i d)(hs:PSet X t)(ha:∀v,assign (.Subscript o i pos) X.env v=(do
 let a<-holding [v] (eval o X.env);let b<-holding [v,a] (eval i X.env)
 standAt pos
 holding [v,a,b] (setItem a b v)
 release [v,a,b] []):=by intro _;rfl):QG X (.Subscript o i pos) (gSub to d t):=⟨aek c.run hi.run hs ha⟩
theorem Fun.okQ{K:Ac}{st:Stmt}(F:Fun K x b st f fd)(S:FnScope N ps (iu st))(len:∀vs H Q E,sp vs H Q E->vs.length=ps.length)(c:∀(a:Value) (A:Around) (outer:List Env) (s:Shared) (H:Hp) (vs:List V) (Q:VK) (E:XK),Room k (A.deeper (envOfC b (iu st) s.heap.objs.size f a))->sp vs H Q E->
 ∃t,QB (cxOf CX0 P w K mg base N b (iu st) f a A outer s H E).nox (lv st) t/\t { nx:=fun _ H'=>Q .non H',rt:=Q } (start N vs) H):FnOk P w K mg base CX0 (k+1) f fd ps sp :=
 F.ok S len fun a A outer s H vs Q E d h=>by
  obtain⟨t,g,e⟩:=c a A outer s H vs Q E d h;exact⟨t,g.run,e⟩
theorem gp(i:Nat)(hN:X.N.Nodup)(he:QE X e te)(hi:X.N[i]? = some x:=by rfl)(hx:Loc X.env.scope x:=by exact .inl rfl)(hs:swapsWith e (some (.Name x pos')) pos.line X.env=pure false:=by rfl)(hf:X.fn x=true\/X.env.scope.names.lookup x=some .local:=by first|exact .inl rfl|exact .inr rfl|assumption):QS X (.Assign [.Name x pos'] e pos) (tAsg te (gq i)):=yt hN hi hx he hs hf
theorem jc(i:Nat)(hN:X.N.Nodup)(hi:X.N[i]? = some x:=by rfl)(hx:Loc X.env.scope x:=by exact .inl rfl)(hf:X.fn x=true\/X.env.scope.names.lookup x=some .local:=by first|exact .inl rfl|exact .inr rfl|assumption):QG X (.Name x pos) (gq i):=acb hN hi hx hf
theorem gz(K:Ac)(ha:QE X a ta)(hb:QE X b tb)(hK:X.K=K:=by rfl)(hs:wq b:=by exact fun _ _=>rfl):QE X (.Subscript a b pos) (tOp (rIxT K) ta tb):=by subst hK;exact gx gy ha hb hs
theorem i0(K:Ac)(ha:QE X a ta)(hb:QE X b tb)(hK:X.K=K:=by rfl)(hs:wq b:=by exact fun _ _=>rfl):QE X (.Subscript a b pos) (tOp (rIxL K) ta tb):=by subst hK;exact gx l8 ha hb hs
theorem Fun.okA{P:Program}{w:World}{K:Ac}{mg:Str->Option Value}{base:Heap}{x qual:Str}{st:Stmt}{f:Addr}{fd:FuncData}{ps:List Str}{k:Nat}{sp:Sp}(F:Fun K x qual st f fd)(N:List Str)(hbody:∀(cdv:Value) (A:Around) (outer:List Env) (s:Shared) (H:Hp) (vs:List V) (Q:VK) (E:XK),Room k (A.deeper (envOfC qual (iu st) s.heap.objs.size f cdv))->sp vs H Q E->N.Nodup->
 ∃t,QB (cxOf CX0 P w K mg base N qual (iu st) f cdv A outer s H E).nox (lv st) t/\t { nx:=fun _ H'=>Q .non H',rt:=Q } (start N vs) H)(S:FnScope N ps (iu st):=by exact⟨rfl,rfl,rfl,by decide +kernel,rfl,by decide +kernel,by decide +kernel⟩)(len:∀vs H Q E,sp vs H Q E->vs.length=ps.length:=by
 intro _ _ _ _ h
 first
  | (cases h<;>subst_vars<;>rfl)
  | (repeat' obtain⟨_,h⟩:=h
     subst_vars;rfl)):FnOk P w K mg base CX0 (k+1) f fd ps sp :=
 F.okQ S len fun cdv A outer s H vs Q E hr h=>hbody cdv A outer s H vs Q E hr h S.nd
theorem gr{H:Hp}{a:Addr}(h:H a=none)(o:HO):∃H':Hp,upd H a o=H'/\Same H H'/\H' a=some o:=⟨_,rfl,gc h o,ft⟩
section
def valV[DecidableEq κ](kvs:List (κ×V))(k:κ):Option V:=(kvs.find? fun kv=>decide (kv.1=k)).map (·.2)
def putK[DecidableEq κ](kvs:List (κ×V))(k:κ)(v:V):List (κ×V) :=
 if (kvs.any fun kv=>decide (kv.1=k))=true then kvs.map (fun kv=>if kv.1=k then (kv.1,v) else kv) else kvs++[(k,v)]
def rq[DecidableEq κ](kvs:List (κ×V))(k:κ):List (κ×V):=kvs.filter fun kv=>decide (kv.1≠k)
theorem md{κ:Type}[DecidableEq κ]{p:κ×V}{r:List (κ×V)}{k:κ}(e:p.1=k):valV (p::r) k=some p.2:=by simp[valV,BJ,e]
theorem m7{κ:Type}[DecidableEq κ]{p:κ×V}{r:List (κ×V)}{k:κ}(e:¬ p.1=k):valV (p::r) k=valV r k:=by simp[valV,BJ,e]
variable{κ:Type}[DecidableEq κ] in
theorem tz(k:κ):∀kvs:List (κ×V),(kvs.any fun kv=>decide (kv.1=k))=(valV kvs k).isSome
 | []=>rfl
 | p::r=>by
  rw[Cy];by_cases e:p.1=k
  . simp only[md e,decide_eq_true e,Bool.true_or,Option.isSome_some]
  . rw[m7 e,decide_eq_false e,Bool.false_or];exact tz k r
variable{κ:Type}[DecidableEq κ] in
variable{κ:Type}[DecidableEq κ] in
theorem mu{κ:Type}[DecidableEq κ](kvs:List (κ×V))(k:κ)(v:V):(putK kvs k v).length<=kvs.length+1:=by
 unfold putK;split
 . rw[Ad];lia
 . rw[Aj,AC,Ek];lia
theorem a1l{κ:Type}[DecidableEq κ]{kvs:List (κ×V)}{k:κ}(v:V)(h:valV kvs k=none):putK kvs k v=kvs++[(k,v)]:=by
 unfold putK;rw[tz,h];exact if_neg (by decide)
theorem RelO.isSome_eq(r:RelO o u):o.isSome=u.isSome:=by
 cases o with
 | none=>cases u with
  | none=>rfl
  | some _=>exact (show False from r).elim
 | some _=>cases u with
  | none=>exact (show False from r).elim
  | some _=>rfl
theorem RelO.getD(r:RelO o u)(a:RelV d d'):RelV (o.getD d) (u.getD d'):=by
 cases o with
 | none=>cases u with
  | none=>exact a
  | some _=>exact (show False from r).elim
 | some _=>cases u with
  | none=>exact (show False from r).elim
  | some _=>exact r
theorem KV.val{κ:Type}[DecidableEq κ]{kvs:List (κ×V)}{vs:List (κ×Value)}(r:KV kvs vs)(k:κ):RelO (valV kvs k) (valueAt vs k):=by
 unfold KV at r;induction r with
 | nil=>exact True.intro
 | @cons p q ps qs h t ih =>
  obtain⟨c,d⟩:=h;by_cases e:p.1=k
  . have a:q.1=k:=c.symm.trans e;have b:valueAt (q::qs) k=some q.2:=by simp[valueAt,BJ,a]
    rw[md e,b];exact d
  . have a:¬ q.1=k:=fun z=>e (c.trans z);have b:valueAt (q::qs) k=valueAt qs k:=by simp[valueAt,BJ,a]
    rw[m7 e,b];exact ih
theorem KV.any{κ:Type}[DecidableEq κ]{kvs:List (κ×V)}{vs:List (κ×Value)}(r:KV kvs vs)(k:κ):(kvs.any fun kv=>decide (kv.1=k))=vs.any fun kv=>decide (kv.1=k):=by
 unfold KV at r;induction r with
 | nil=>rfl
 | cons h t ih=>rw[Cy,Cy,ih,h.1]
theorem KV.repl{κ:Type}[DecidableEq κ]{kvs:List (κ×V)}{vs:List (κ×Value)}(r:KV kvs vs)(k:κ){y:V}{u:Value}(c:RelV y u):
 KV (kvs.map fun kv=>if kv.1=k then (kv.1,y) else kv) (vs.map fun kv=>if kv.1=k then (kv.1,u) else kv):=by
 unfold KV at r |-;induction r with
 | nil=>exact .nil
 | @cons p q ps qs h t ih =>
  rw[Ar,Ar];refine .cons ?_ ih;obtain⟨a,b⟩:=h;by_cases e:p.1=k
  . rw[if_pos e,if_pos (a.symm.trans e)];exact⟨a,c⟩
  . rw[if_neg e,if_neg (fun z=>e (a.trans z))];exact⟨a,b⟩
theorem KV.put{κ:Type}[DecidableEq κ]{kvs:List (κ×V)}{vs:List (κ×Value)}(r:KV kvs vs)(k:κ){y:V}{u:Value}(a:RelV y u):KV (putK kvs k y) (stored vs k u):=by
 unfold putK stored;rw[r.any k];by_cases e:(vs.any fun kv=>decide (kv.1=k))=true
 . rw[if_pos e,if_pos e];exact r.repl k a
 . rw[if_neg e,if_neg e];exact JQ r ⟨rfl,a⟩
theorem KV.drop{κ:Type}[DecidableEq κ]{kvs:List (κ×V)}{vs:List (κ×Value)}(r:KV kvs vs)(k:κ):KV (rq kvs k) (without vs k):=by
 unfold KV at r |-;unfold rq without;induction r with
 | nil=>exact .nil
 | @cons p q ps qs h t ih =>
  obtain⟨c,d⟩:=h;rw[ES,ES];by_cases e:p.1=k
  . have a:¬ decide (p.1≠k)=true:=by simp[e]
    have b:¬ decide (q.1≠k)=true:=by simp[c.symm.trans e]
    rw[if_neg a,if_neg b];exact ih
  . have f:¬ q.1=k:=fun z=>e (c.trans z);have a:decide (p.1≠k)=true:=by simp[e]
    have b:decide (q.1≠k)=true:=by simp[f]
    rw[if_pos a,if_pos b];exact .cons ⟨c,d⟩ ih
theorem KV.keys{κ:Type}[DecidableEq κ]{kvs:List (κ×V)}{vs:List (κ×Value)}(r:KV kvs vs):kvs.map (·.1)=vs.map (·.1):=by
 unfold KV at r;induction r with
 | nil=>rfl
 | cons h t ih=>rw[Ar,Ar,ih,h.1]
theorem KV.length{κ:Type}[DecidableEq κ]{kvs:List (κ×V)}{vs:List (κ×Value)}(r:KV kvs vs):kvs.length=vs.length:=AB r
theorem aat{κ:Type}[DecidableEq κ](kvs:List (κ×V))(k:κ):(rq kvs k).length<=kvs.length:=BM _ _
end
theorem rd(r:RelV (kV k) u):(jh P w).is k u=true:=by
 cases k with
 | inl i=>obtain⟨t,e⟩:=(show ∃t,u=Value.int i t from r);subst e;exact a33 P w i t
 | inr x=>obtain⟨t,e⟩:=(show ∃t,u=Value.str x t from r);subst e;exact a32 P w x t
theorem a09:∀{ks:List Key}{us:List Value},Vals (ks.map kV) us->ItemsAre (jh P w) ks us
 | [],_,r=>by rw[JK] at r;cases r;exact .nil
 | k::ks,_,r=>by
  rw[Ar] at r;cases r with
  | cons h t=>exact .cons (rd h) (a09 t)
abbrev KT(H:Hp):List (List Key×V)->List (List Key×Addr×Value)->Prop:=Paired fun p q=>p.1=q.1/\H q.2.1=some (.tup (p.1.map kV))/\RelV p.2 q.2.2
theorem KT.val(r:KT H kvs xs)(k:List Key):RelO (valV kvs k) ((atKey xs k).map (·.2)):=by
 induction r with
 | nil=>exact True.intro
 | @cons p q ps qs h t ih =>
  obtain⟨c,_,d⟩:=h;by_cases e:p.1=k
  . have a:q.1=k:=c.symm.trans e;have b:atKey (q::qs) k=some q.2:=by simp[atKey,BJ,a]
    rw[md e,b];exact d
  . have a:¬ q.1=k:=fun z=>e (c.trans z);have b:atKey (q::qs) k=atKey qs k:=by simp[atKey,BJ,a]
    rw[m7 e,b];exact ih
theorem KT.repl(r:KT H kvs xs)(k:List Key)(c:RelV y u):
 KT H (kvs.map fun kv=>if kv.1=k then (kv.1,y) else kv) (xs.map (putAt k u)):=by
 induction r with
 | nil=>exact .nil
 | @cons p q ps qs h t ih =>
  rw[Ar,Ar];refine .cons ?_ ih;obtain⟨a,b,d⟩:=h;unfold putAt;by_cases e:p.1=k
  . rw[if_pos e,if_pos (a.symm.trans e)];exact⟨a,b,c⟩
  . rw[if_neg e,if_neg (fun z=>e (a.trans z))];exact⟨a,b,d⟩
theorem KT.put(r:KT H kvs xs)(k:List Key)(hb:H b=some (.tup (k.map kV)))(a:RelV y u):
 KT H (putK kvs k y) (storedH xs k b u):=by
 have e:(kvs.any fun kv=>decide (kv.1=k))=(atKey xs k).isSome:=by
  rw[tz,(r.val k).isSome_eq,IZ]
 unfold putK storedH;rw[e];by_cases q:(atKey xs k).isSome=true
 . rw[if_pos q,if_pos q];exact r.repl k a
 . rw[if_neg q,if_neg q];exact JQ r ⟨rfl,hb,a⟩
theorem KT.keeps(r:KT H kvs xs)(ht:∀b ys,H b=some (.tup ys)->H' b=some (.tup ys)):KT H' kvs xs :=
 Paired.mapP r fun _ _ z=>⟨z.1,ht _ _ z.2.1,z.2.2⟩
theorem ab6(ok:HOk P w H h)(e:Rd H a u):ObjOk P w H h a u:=e.ok ok
theorem o6(ok:HOk P w H h)(e:Rd H a (.dK kvs)):kvs.length<=sizeLine/\(a == sysModules)=false/\∃vs,KV kvs vs/\h.DictOf (jh P w) a vs :=
 show ObjOk P w H h a (.dK kvs) from ab6 ok e
theorem uh(ok:HOk P w H h)(e:H a=some (.dK kvs)):kvs.length<=sizeLine/\(a == sysModules)=false/\∃vs,KV kvs vs/\h.DictOf (jh P w) a vs:=o6 ok (.inl e)
theorem uv(ok:HOk P w H h)(e:H a=some (.tup (ks.map kV))):(tupleKind (jh P w)).is h ks a:=by
 obtain⟨_,its,r,o,c,b,n,d⟩:=(show ObjOk P w H h a (.tup (ks.map kV)) from ok a _ e)
 exact⟨o,its.toArray,n,c,b,d,by simpa using a09 r⟩
theorem wv(ok:HOk P w H h)(e:Rd H a (.dT kvs)):kvs.length<=sizeLine/\(a == sysModules)=false/\
 ∃xs,KT H kvs xs/\h.DictOfH (tupleKind (jh P w)) a xs:=by
 obtain⟨z,y,xs,r,o,es,ep,g,f,d,i,c⟩:=(show ObjOk P w H h a (.dT kvs) from ab6 ok e)
 refine⟨z,y,xs,r,o,es,ep,g,f,d,i,fun x b=>?_,c⟩;have all:∀{l:List (List Key×V)} {m:List (List Key×Addr×Value)},KT H l m->∀x∈m,(tupleKind (jh P w)).is h x.1 x.2.1:=by
  intro l m q;induction q with
  | nil=>intro x b;exact nomatch b
  | @cons p q ps qs hq t ih =>
   intro x b;rcases Ah.mp b with e|b
   . subst e;exact uv ok (by rw[<- hq.1];exact hq.2.1)
   . exact ih x b
 exact all r x b
theorem afd(ok:HOk P w H h)(e:H a=some (.dT kvs)):kvs.length<=sizeLine/\(a == sysModules)=false/\
 ∃xs,KT H kvs xs/\h.DictOfH (tupleKind (jh P w)) a xs:=wv ok (.inl e)
def DGet(H:Hp)(a:Addr)(y:V)(r:Option V):Prop :=
 (∃kvs k,Rd H a (.dK kvs)/\y=kV k/\r=valV kvs k)\/∃kvs k b,Rd H a (.dT kvs)/\y=.ref b/\H b=some (.tup (k.map kV))/\r=valV kvs k
def DPut(H:Hp)(a:Addr)(y v:V)(H':Hp):Prop :=
 (∃kvs k,H a=some (.dK kvs)/\y=kV k/\kvs.length<sizeLine/\H'=upd H a (.dK (putK kvs k v)))\/
 ∃kvs k b,H a=some (.dT kvs)/\y=.ref b/\H b=some (.tup (k.map kV))/\kvs.length<sizeLine/\H'=upd H a (.dT (putK kvs k v))
theorem DGet.k{H:Hp}{a:Addr}{kvs:List (Key×V)}{k:Key}(e:H a=some (.dK kvs)):DGet H a (kV k) (valV kvs k):=.inl ⟨kvs,k,.inl e,rfl,rfl⟩
theorem DPut.k{H:Hp}{a:Addr}{kvs:List (Key×V)}{k:Key}{v:V}(e:H a=some (.dK kvs))(hl:kvs.length<sizeLine):DPut H a (kV k) v (upd H a (.dK (putK kvs k v))):=.inl ⟨kvs,k,e,rfl,hl,rfl⟩
theorem Inv.big(I:Inv X a σ H s):sysModules<s.heap.objs.size:=by
 have h:mainGlobals<s.heap.objs.size:=(I.mod.glob.keeps I.bk).lt;exact Nat.lt_trans (by decide) h
theorem a8m(r:A.units+1<cLine)(I:Inv X f σ H s)(g:DGet H a y (some v))(n:RelV y u)(h:∀d s',Inv X f σ H s'->RelV v d->Q d s'):
 wpAny (model X.prog X.w) A (getItem (.ref a) u) Q E s:=by
 rcases g with⟨kvs,k,e,j,l⟩|⟨kvs,k,b,e,j,q,l⟩
 . subst j;obtain⟨z,hd,vs,rel,dd⟩:=o6 I.hok e;obtain⟨d,m,c⟩:=RelO.some_of (v:=v) (o:=valueAt vs k) (by rw[l];exact rel.val k);exact Ji (rd n) dd.mapOf m (h d _ (I.tok _) c)
 . subst j;cases (show u=Value.ref b from n);obtain⟨z,hd,xs,rel,dd⟩:=wv I.hok e;obtain⟨d,m,c⟩:=RelO.some_of (v:=v) (o:=(atKey xs k).map (·.2)) (by rw[l];exact rel.val k);obtain⟨p,hp,i⟩:=Bb.mp m;refine wpAny_getItem_heap (Et r) (uv I.hok q) dd hp ?_;rw[i];exact h d _ (I.tok _) c
theorem adk(j:A.units+1<cLine)(I:Inv X c σ H s)(g:DGet H a y o)(f:RelV y u)(h:∀s',Inv X c σ H s'->Q (.bool (!o.isSome)) s'):
 wpAny (model X.prog X.w) A (compareOp .NotIn u (.ref a)) Q E s:=by
 rcases g with⟨kvs,k,e,d,l⟩|⟨kvs,k,b,e,d,i,l⟩
 . subst d;obtain⟨z,hd,vs,rel,dd⟩:=o6 I.hok e;refine wpAny_notIn_of (rd f) hd dd.mapOf ?_;rw[<- (rel.val k).isSome_eq,<- l];exact h _ (I.tok _)
 . subst d;cases (show u=Value.ref b from f);obtain⟨z,hd,xs,rel,dd⟩:=wv I.hok e;refine wpAny_notIn_heap (Et j) (uv I.hok i) hd dd ?_;have q:=(rel.val k).isSome_eq;rw[IZ] at q;rw[<- q,<- l];exact h _ (I.tok _)
theorem qg(I:Inv X c σ H s)(d:Mut (H a))(hs:Cu a s.heap h')(f:∃q,h'.get? a=some q)(new:ObjOk X.prog X.w (upd H a ob) h' a ob):
 Inv X c σ (upd H a ob) { s with heap:=h',toks:=t' } :=
 I.write (x:=a) (e:=a) d (.inl rfl) (fun b q hb z=>(hs.2 b hb).trans z) f new
theorem tj(z:kvs.length<=sizeLine)(hd:(a == sysModules)=false)(rel:KV kvs vs)(dd:h'.DictOf (jh P w) a vs):
 ObjOk P w H' h' a (.dK kvs):=⟨z,hd,vs,rel,dd⟩
theorem a67(C:A.units+1<cLine)(I:Inv X f σ H s)(g:DPut H a y v H')(o:RelV y u)(m:RelV v r)(h:∀s',Inv X f σ H' s'->Q () s'):
 wpAny (model X.prog X.w) A (setItem (.ref a) u r) Q E s:=by
 rcases g with⟨kvs,k,e,j,l,i⟩|⟨kvs,k,b,e,j,n,l,i⟩
 . subst j i;obtain⟨z,hd,vs,rel,dd⟩:=uh I.hok e;have hz:vs.length<=sizeLine:=by rw[<- rel.length];exact z
   have hl:(putK kvs k v).length<=sizeLine:=by have:=mu kvs k v;lia
   refine wpAny_setItem_pairs (hsz:=hz) (rd o) dd fun h' d hs=>h _ ?_;have G:∃q,h'.get? a=some q:=let ⟨q,_,_,hq,_⟩:=d;⟨q,hq⟩;exact qg I (by rw[e];exact True.intro) hs G (tj hl hd (rel.put k m) d)
 . subst j i;cases (show u=Value.ref b from o);obtain⟨z,hd,xs,rel,dd⟩:=afd I.hok e;have hz:xs.length<=sizeLine:=by rw[<- AB rel];exact z
   have hl:(putK kvs k v).length<=sizeLine:=by have:=mu kvs k v;lia
   refine wpAny_setItem_heap (hsz:=hz) (Et C) (uv I.hok n) dd fun h' d hs=>h _ ?_;obtain⟨q,es,ep,hq,D,x,F,_,t⟩:=d;refine qg I (by rw[e];exact True.intro) hs ⟨q,hq⟩ ⟨hl,hd,_,(rel.put k n m).keeps fun c ys p=>?_,q,es,ep,hq,D,x,F,t⟩;rw[fq (afm p e (fun z=>nomatch z))];exact p
theorem afo(I:Inv X f σ H s)(e:H a=some (.dK kvs))(g:RelV (kV k) u)(l:valV kvs k=some v)(hm:b=[]\/∃x,b=[x])(h:∀c s',Inv X f σ (upd H a (.dK (rq kvs k))) s'->RelV v c->Q c s'):wpAny (model X.prog X.w) A (call (.builtin "dict.pop") (.ref a::u::b)) Q E s:=by
 obtain⟨z,hd,vs,rel,dd⟩:=uh I.hok e;obtain⟨c,m,j⟩:=RelO.some_of (v:=v) (o:=valueAt vs k) (by rw[<- l];exact rel.val k);have hp:(keyPart u).isSome=true:=by
  cases k with
  | inl i=>obtain⟨t,q⟩:=(show ∃t,u=Value.int i t from g);subst q;rfl
  | inr x=>obtain⟨t,q⟩:=(show ∃t,u=Value.str x t from g);subst q;rfl
 have ha:argsOk "dict.pop" ⟨.ref a::u::b,[]⟩:=by
  rcases hm with q|⟨x,q⟩
  . subst q;exact PySem.F.args_dict_pop_2 _ _
  . subst q;exact PySem.F.args_dict_pop_3 _ _ _
 refine Fg HM dd.typeIs PySem.F.entry_dict_pop ha (meets_dict_pop_there (jh X.prog X.w) a (rd g) b hm hp)
  ⟨vs,c,dd,by rw[<- rel.length];exact z,m,fun h' d hs=>h c _ ?_ j⟩
 have n:∃q,h'.get? a=some q:=let ⟨q,_,_,hq,_⟩:=d;⟨q,hq⟩;exact qg I (by rw[e];exact True.intro) hs n (tj (Ax (aat kvs k) z) hd (rel.drop k) d)
theorem af8(I:Inv X b σ H s)(e:Rd H a (.dK kvs))(h:∀t s',Inv X b σ H s'->Q (.int kvs.length t) s'):wpAny (model X.prog X.w) A (call (.builtin "len") [.ref a]) Q E s:=by
 obtain⟨z,hd,vs,rel,dd⟩:=o6 I.hok e;refine call_len_dict hd dd (by rw[<- rel.length];rw[Fy] at z;lia) ?_;rw[<- rel.length];exact h _ _ (I.tok _)
def NoSl(i:Expr):Prop:=∀ov iv,subscripted i false ov iv=operate [ov,iv] (getItem ov iv)
theorem a4g{id:String}(hl:typeLookup (.type T) "__getitem__" = pure (some (.builtin id)))(hs:NoSl a)(h:wpAny (model prog w) A (eval value env) (fun o d=>wpAny (model prog w) A (eval a env) (fun i b=>b.TypeIs o T/\wpAny (model prog w) A (getItem o i) Q E b) E d) E s):
 wpAny (model prog w) A (eval (.Subscript value a pos) env) Q E s:=by
 refine Subscript_ (BR h (fun o d j=>BR j (fun i b c=>?_) fun _ _ x=>x) fun _ _ x=>x);obtain⟨f,c⟩:=c;unfold subscriptTail;refine Aa ?_;rw[getitemInPython_of_ne f.not_modules];refine Aa (He f hl ?_);have fin:wpAny (model prog w) A (subscripted a false o i) (fun r e=>wpAny (model prog w) A (letTemporaryGo value o r >>= fun _=>pure r) Q E e) E b:=by
  rw[hs o i];exact wpAny_operating (BR c (fun r e g=>Aa (wpAny_letTemporaryGo (Ae g))) fun _ _ x=>x)
 first
  | exact Ae (Aa fin)
  | exact Aa (Ae (Aa fin))
  | exact Aa fin
theorem a2w(I:Inv X c σ H s)(g:DGet H a y o):s.TypeIs (.ref a) "dict" := by
 rcases g with⟨kvs,k,e,_,_⟩|⟨kvs,k,b,e,_,_,_⟩
 . obtain⟨_,_,vs,_,dd⟩:=o6 I.hok e;exact dd.typeIs
 . obtain⟨_,_,xs,_,dd⟩:=wv I.hok e;exact dd.typeIs
def abb(td ty:TE):TE:=fun σ H Q=>td σ H fun x H1=>ty σ H1 fun y H2=>∃a v,x=.ref a/\DGet H2 a y (some v)/\Q v H2
def a3r(ty td:TE):TE:=fun σ H Q=>ty σ H fun y H1=>td σ H1 fun x H2=>∃a o,x=.ref a/\DGet H2 a y o/\Q (.bl (!o.isSome)) H2
def yj(td ty tv:TE):TS:=fun D σ H=>tv σ H fun v H1=>td σ H1 fun x H2=>ty σ H2 fun y H3=>∃a H4,x=.ref a/\DPut H3 a y v H4/\D.nx σ H4
theorem acn(l:X.A.units+1<cLine)(n:PE X o q)(hi:PE X i ty)(hs:NoSl i):PE X (.Subscript o i pos) (abb q ty):=by
 intro b s σ H Q I h;refine a4g Gb.lookup hs (thn (n b s σ H _ I h) fun u e ⟨x,t,j,k,w⟩=>thn (hi b e σ t _ j w) fun C E ⟨y,r,d,m,a,v,ex,g,p⟩=>?_);subst ex;obtain rfl:u=Value.ref a:=k;exact⟨a2w d g,a8m l d g m fun z D f c=>⟨v,r,f,c,p⟩⟩
theorem a89(hu:X.A.units+1<cLine)(hi:PE X i ty)(ho:PE X o td):PC X .NotIn i o (a3r ty td):=by
 intro pins s σ H Q I h;refine thn (hi pins s σ H _ I h) fun iv s1 ⟨y,H1,I1,ry,q1⟩=>thn (ho pins s1 σ H1 _ I1 q1) fun u s2 ⟨x,H2,I2,rx,a,ov,ex,g,q2⟩=>?_;subst ex;obtain rfl:u=Value.ref a:=rx;exact adk hu I2 g ry fun s3 I3=>⟨.bl (!ov.isSome),H2,I3,rfl,q2⟩
theorem ad6(n:X.A.units+1<cLine)(q:PE X o C)(hi:PE X i ty)(k:PE X value l)(hs:swapsWith value (some (.Subscript o i c)) pos.line X.env=pure false):
 PS X (.Assign [.Subscript o i c] value pos) (yj C ty l):=by
 intro b s σ H D I h;refine wpAny_Assign_Subscript (thn (k b s σ H _ I h) fun r d ⟨v,L,j,f,M⟩=>thn (q b d σ L _ j M) fun u G ⟨x,J,t,m,z⟩=>thn (hi b G σ J _ t z) fun N O ⟨y,P,e,p,a,w,ex,g,E⟩=>?_) hs;subst ex;obtain rfl:u=Value.ref a:=m;exact a67 n e g p f fun Q F=>⟨σ,w,F,E⟩
theorem yg(h:Heap)(hb:sysModules<h.objs.size):ObjOk P w H (h.push { cls:=.type "dict",data:=.dict #[] }) h.objs.size (.dK []) :=
 ⟨AH _,beq_eq_false_iff_ne.mpr (AL (AA hb)),[],.nil,Heap.DictOf.new h⟩
def a7k:TE:=fun _ H Q=>∀p,H p=none->Q (.ref p) (upd H p (.dK []))
theorem aaf:PE X (.Dict [] [] pos) a7k:=fun b s σ H Q I h =>
 wpAny_Dict_empty ⟨.ref s.heap.objs.size,_,I.laid (a:=s.heap.objs.size) (o:=.dK []) (t':=s.toks) (fun _ _ q=>Ab _ q) (Ak _) (yg s.heap I.big),rfl,h _ (I.hok.fresh (Ak _))⟩
def nq(kvs more:List (Key×V)):List (Key×V):=more.foldl (fun acc kv=>putK acc kv.1 kv.2) kvs
theorem KV.merge:∀{a:List (Key×V)}{rs:List (Key×Value)}{kvs:List (Key×V)}{vs:List (Key×Value)},KV a rs->KV kvs vs->KV (nq kvs a) (merged vs rs):=by
 intro a rs kvs vs r;unfold KV at r;induction r generalizing kvs vs with
 | nil=>intro q;exact q
 | @cons p q ps qs h t ih =>
  intro b;have e:KV (putK kvs p.1 p.2) (stored vs q.1 q.2):=by
   have:=b.put p.1 h.2;rw[<- h.1];exact this
  exact ih e
theorem uq:∀(a kvs:List (Key×V)),(nq kvs a).length<=kvs.length+a.length
 | [],kvs=>by show kvs.length<=kvs.length+0;lia
 | p::r,kvs=>by
  have c:=uq r (putK kvs p.1 p.2);have b:=mu kvs p.1 p.2;show (nq (putK kvs p.1 p.2) r).length<=_;rw[AC];lia
structure M1(X:Cx)(o:Expr)(m:Str)(apos:Pos)(e:Expr)(cpos:Pos):Prop where
 base:attributeBase o m X.env (eval o X.env)=eval o X.env
 few:((backTo cpos (starEach [e] X.env)).all (fun x => !x.1) && (backToKw cpos (keywordEach [] X.env)).all (fun x=>x.1.isSome)
  && decide (([e]:List Expr).length+([]:List Keyword).length+(if ([]:List Keyword).isEmpty then 0 else 1)<30))=true
 line:(apos.endLine == cpos.line)=true
 trees:backTo cpos (starEach [e] X.env)=[(false,eval e X.env)]
structure M2(X:Cx)(o:Expr)(m:Str)(apos:Pos)(e f:Expr)(cpos:Pos):Prop where
 base:attributeBase o m X.env (eval o X.env)=eval o X.env
 few:((backTo cpos (starEach [e,f] X.env)).all (fun x => !x.1) && (backToKw cpos (keywordEach [] X.env)).all (fun x=>x.1.isSome)
  && decide (([e,f]:List Expr).length+([]:List Keyword).length+(if ([]:List Keyword).isEmpty then 0 else 1)<30))=true
 line:(apos.endLine == cpos.line)=true
 trees:backTo cpos (starEach [e,f] X.env)=[(false,eval e X.env),(false,eval f X.env)]
def IsD(H:Hp)(a:Addr):Prop:=(∃kvs,Rd H a (.dK kvs))\/∃kvs,Rd H a (.dT kvs)
theorem a2o(I:Inv X g σ H s)(d:IsD H a):
 s.TypeIs (.ref a) "dict" /\ (∀b,Value.ref a=.ref b->∃ob,s.heap.get? b=some ob/\ob.dict=none)/\(a == sysModules)=false:=by
 rcases d with⟨kvs,e⟩|⟨kvs,e⟩
 . obtain⟨_,hd,vs,_,dd⟩:=o6 I.hok e;refine⟨dd.typeIs,fun b q=>?_,hd⟩;cases q;obtain⟨ob,_,_,f,c,_⟩:=dd;exact⟨ob,f,c.2.1⟩
 . obtain⟨_,hd,xs,_,dd⟩:=wv I.hok e;refine⟨dd.typeIs,fun b q=>?_,hd⟩;cases q;obtain⟨ob,_,_,f,c,_⟩:=dd;exact⟨ob,f,c.2.1⟩
theorem ae4(p:A.units+1<cLine)(I:Inv X c σ H s)(g:DGet H a y o)(m:RelV y u)(j:RelV d r)(h:∀i s',Inv X c σ H s'->RelV (o.getD d) i->Q i s'):
 wpAny (model X.prog X.w) A (call (.builtin "dict.get") [.ref a,u,r]) Q E s:=by
 rcases g with⟨kvs,k,e,f,l⟩|⟨kvs,k,b,e,f,n,l⟩
 . subst f;obtain⟨z,hd,vs,rel,dd⟩:=o6 I.hok e;refine Fg De dd.typeIs EN (GY _ _ _) (meets_dict_get_default (jh X.prog X.w) a (rd m) hd r) ⟨_,dd.mapOf,h _ _ (I.tok _) ?_⟩;rw[l];exact (rel.val k).getD j
 . subst f;cases (show u=Value.ref b from m);obtain⟨z,hd,xs,rel,dd⟩:=wv I.hok e;refine Fg De dd.typeIs EN (GY _ _ _) (meetsH_dict_get_default (tupleKind (jh X.prog X.w)) a b hd r) ⟨Et p,k,xs,uv I.hok n,dd,h _ _ (I.tok _) ?_⟩;rw[l];exact (rel.val k).getD j
def a7v(td ty tx:TE):TE:=fun σ H Q=>td σ H fun x H1=>∃a,x=.ref a/\IsD H1 a/\ty σ H1 fun y H2=>tx σ H2 fun z H3=>∃o,DGet H3 a y o/\Q (o.getD z) H3
def a6x(td ty:TE):TE:=fun σ H Q=>td σ H fun x H1=>∃a,x=.ref a/\IsD H1 a/\ty σ H1 fun y H2=>∃kvs k v,H2 a=some (.dK kvs)/\y=kV k/\valV kvs k=some v/\Q v (upd H2 a (.dK (rq kvs k)))
theorem aa7(q:X.A.units+1<cLine)(v:PE X o E)(J:PE X e ty)(w:PE X f S)(m:M2 X o "get" c e f i):PE X (.Call (.Attribute o "get" c) [e,f] [] i) (a7v E ty S):=by
 intro b s σ H Q I h;refine FW m.base m.few m.line Dx De HK (thn (v b s σ H _ I h) fun u l ⟨x,P,k,p,a,ex,d,R⟩=>?_);subst ex;obtain rfl:u=Value.ref a:=p;obtain⟨t1,t2,_⟩:=a2o k d;refine⟨t1,t2,?_⟩;rw[m.trees];refine Cv rfl (Dm (CQ (thn (J b l σ P _ k R) fun U N ⟨y,O,C,r,D⟩ =>
  CQ (thn (w b N σ O _ C D) fun fv Y ⟨z,L,n,t,W,g,G⟩=>DM ?_))))
 exact ae4 q n g r t fun T Z M j=>⟨_,L,M,j,G⟩
theorem aav(r:PE X o A)(C:PE X e ty)(m:M1 X o "pop" c e f):PE X (.Call (.Attribute o "pop" c) [e] [] f) (a6x A ty):=by
 intro b s σ H Q I h;refine FW m.base m.few m.line Dx HM PySem.F.type_dict_pop (thn (r b s σ H _ I h) fun u j ⟨x,E,i,p,a,ex,d,G⟩=>?_);subst ex;obtain rfl:u=Value.ref a:=p;obtain⟨t1,t2,_⟩:=a2o i d;refine⟨t1,t2,?_⟩;rw[m.trees];refine Cv rfl (Dm (CQ (thn (C b j σ E _ i G) fun L N ⟨y,O,t,q,kvs,k,v,w,D,l,z⟩=>DM ?_)));subst D;exact afo t w q l (.inl rfl) fun J M n g=>⟨v,_,n,g,z⟩
theorem aar(I:Inv X c σ H s)(e:Rd H a (.dK kvs))(h:∀p s',H p=none->Inv X c σ (upd H p (.dK kvs)) s'->Q (.ref p) s'):wpAny (model X.prog X.w) A (call (.type "dict") [.ref a]) Q E s:=by
 obtain⟨z,hd,vs,rel,dd⟩:=o6 I.hok e;refine kt_call_dict hd dd (by rw[<- rel.length];exact z) fun h' d hs=>?_;refine h _ _ (I.hok.fresh (Ak _)) (I.laid (a:=s.heap.objs.size) (o:=.dK kvs) (t':=s.toks) (fun b q hq=>?_) (Ak _) (tj z (beq_eq_false_iff_ne.mpr (AL (AA I.big))) rel d));exact (hs.2 b (AA (As hq))).trans (Ab _ hq)
theorem v8:jz X (.builtin "len") (fun xs H Q=>∃a kvs,xs=[V.ref a]/\H a=some (.dK kvs)/\Q (.int kvs.length) H):=by
 intro b s σ H xs us Q I r h;obtain⟨a,kvs,rfl,ha,q⟩:=h;obtain⟨u,rfl,d⟩:=rg r;cases d;exact af8 I (.inl ha) fun t s' c=>⟨.int kvs.length,H,c,⟨t,rfl⟩,q⟩
section
theorem a3e{κ:Type}[DecidableEq κ]{kvs:List (κ×V)}{k:κ}{v:V}(h:valV kvs k=some v):k∈kvs.map (·.1):=by
 have q:(kvs.any fun kv=>decide (kv.1=k))=true:=by
  rw[tz,h]
  all_goals rfl
 obtain⟨p,hp,e⟩:=DX.mp q;exact Az.mpr ⟨p,hp,of_decide_eq_true e⟩
variable{κ:Type}[DecidableEq κ] in
variable{κ:Type}[DecidableEq κ] in
variable{κ:Type}[DecidableEq κ] in
variable{κ:Type}[DecidableEq κ] in
end
section
set_option relaxedAutoImplicit true
theorem ke{id:String}{K:Ac}(hK:X.K=K)(h:PlainAttrs T)(slot:Slot T name id)(f:typeOf (.builtin id)=pure (.type "method_descriptor"))(hm:MtR X id r)(g:QE X o to)(ha:QA X (e::es) t)(c:attributeBase o name X.env (eval o X.env)=eval o X.env:=by rfl)(d:((backTo cpos (starEach (e::es) X.env)).all (fun x => !x.1) && (backToKw cpos (keywordEach [] X.env)).all (fun x=>x.1.isSome)       && decide ((e::es).length+([]:List Keyword).length+(if ([]:List Keyword).isEmpty then 0 else 1)<30))=true:=by rfl)(b:(apos.endLine == cpos.line)=true:=by rfl)(hs:starEach (e::es) X.env=(false,eval e X.env)::starEach es X.env:=by rfl)(a:(backTo cpos (starEach es X.env)).any (·.1)=false:=by rfl):QE X (.Call (.Attribute o name apos) (e::es) [] cpos) (tBM K T r to t):=by
 subst hK;exact⟨abg h slot f hm g.run ha.run c d b hs a⟩
end
theorem Inv.turnedL{ch:List Addr}(I:Inv X a σ H s)(k:∀b o,b∉ch->s.heap.get? b=some o->h'.get? b=some o)(hc:∀b∈ch,FpOk X a H b):Inv X a σ H { s with heap:=h',toks:=t' }:=by
 have d:∀b u,H b=some u->b∉ch:=fun b u e z=>by rw[(hc b z).1] at e;cases e
 refine I.step (g':=s.gens) (d':=s.drawn) (ch:=ch) (fun b hb=>⟨(hc b hb).2.2.2.1,(hc b hb).2.1,(hc b hb).2.2.2.2.1,(hc b hb).2.2.2.2.2⟩) (fun b o _ _ hn e _=>k b o hn e) (fun b o _ _ hn e _=>⟨o.slots,k b o hn e⟩) (fun _ _ _ _ n=>n)
  (fun b o hn e=>⟨o,k b o hn e⟩) (fun _ _ e=>e) (fun _ _ _ e=>e) (fun b ps e=>⟨#[],by rw[e];simp⟩) (fun m hm=>?_) (fun b u e=>?_) I.bare
 . obtain⟨o,es,ep,g,r⟩:=hm;exact⟨o,es,ep,k _ o (fun z=>(hc _ z).2.1 rfl) g,r⟩
 . refine (I.hok b u e).stay (fun c v f q=>k c v ?_ q) (fun _ q=>q) fun _ _ q=>q;rcases f with z|z
   . rw[z];exact d b u e
   . exact d c _ z
def j3(n:Addr):List Addr:=[n+4,n+2,n+3,n,n+1]
theorem om{n l1 l2:Nat}(d:l1∉j3 n)(c:l2∉j3 n):ZipApart (n+4) (n+2) (n+3) n (n+1) l1 l2:=by
 unfold j3 at d c;simp only[Ah,Ay,or_false,not_or] at d c;have nn:∀a b:Nat,a≠b->n+a≠n+b:=fun a b h=>by lia
 have e:∀a:Nat,a≠0->n≠n+a:=fun a h=>by lia
 exact⟨nn 2 4 (by decide),nn 3 4 (by decide),e 4 (by decide),nn 1 4 (by decide),nn 2 3 (by decide),(e 2 (by decide)).symm,nn 2 1 (by decide),(e 3 (by decide)).symm,nn 3 1 (by decide),e 1 (by decide),d.1,d.2.2.1,d.2.2.2.1,d.2.2.2.2,c.1,c.2.2.1,c.2.2.2.1,c.2.2.2.2⟩
theorem a5l(N:List Str)(Y:X.N.Nodup)(L:X.N[iy]? = some k)(S:Loc X.env.scope k)(R:swapsWith (.ListComp m [⟨.Name x px,d,t,0⟩] a pos) (some (.Name k py)) r.line X.env=pure true)(O:X.fn k=true\/X.env.scope.names.lookup k=some .local)(hc:X.calm=true)(hi:PI X (.Name x px) d wi)(W:∀s H C ex,PTs (blk X N s H a cl C ex) t tc)(he:∀s H C ex,PE (blk X N s H a cl C ex) m te)(g:a.kind=.function)(hN:N=x::ix.map fun j=>(X.N[j]?).getD "")(hnd:N.Nodup)(hx:a.names.lookup x=some .local)(U:closureFor a X.env=pure cl)(i:∀y∈a.names,y.2≠.cell)(f:∀y∈a.names,y.2=.local->a.names.lookup y.1=some .local)(n:∀y c,cl.lookup y=some c->X.env.cells.lookup y=some c)(u:∀y,((relabel a X.env).names.lookup y=some .cell\/(relabel a X.env).names.lookup y=some .free)->∃c,cl.lookup y=some c)(G:∀j∈ix,∃y,X.N[j]? = some y/\X.env.kindOf y=some .cell/\(relabel a X.env).names.lookup y=some .cell)(hs:∀x,foldedSetIterable d X.env x=pure x:=by intro _;rfl):
 PS X (.Assign [.Name k py] (.ListComp m [⟨.Name x px,d,t,0⟩] a pos) r) (tAsg (uc ix wi tc te) (gq iy)):=by
 intro v s σ H D0 I h;rw[exec_Assign_Name_used _ _ _ _ R];refine Aa (EO (Aa ?_));show wpAny _ _ (comprehension _ _ _ _ _ _ _ _ >>= _) _ _ _;refine Aa (BR (Q:=fun _ s'=>SP X v D0 .next s') (a0l N hc hi W he g hN hnd hx U i f n u G hs (use:=some (assign (.Name k py) X.env)) I h fun D C s6 H5 mm I7 hm J w p hsz l qn=>?_) (fun _ s' q=>Ae (Ae q)) fun _ _ y=>y);refine FR (a0c I7 Y L S (show RelV (V.ref D) (Value.ref D) from rfl) (fun s8 I8 A=>?_) O);obtain⟨a8,T,aa⟩:=A;have Z:C≠a8:=by
  rcases aa with z|z
  . rw[z];exact w
  . exact AL (p _ _ z)
 obtain⟨oC,M,P,F,rC⟩:=hm;refine⟨mm,⟨oC,M,P,T.extBut _ _ Z F,rC⟩,fun h9 E=>?_⟩;exact⟨_,H5,I8.turned (t':=s8.toks) (it:=C) (fun b o hb e=>E.extBut b o hb e) J w (.inr hsz) p l,qn⟩
theorem tm:QE X (.Dict [] [] pos) a7k:=⟨aaf⟩
theorem ml(c:X.A.units+1<cLine)(a:QE X o b)(hi:QE X i ty)(hs:NoSl i):QE X (.Subscript o i pos) (abb b ty):=⟨acn c a.run hi.run hs⟩
theorem a0i(c:X.A.units+1<cLine)(hi:QE X i ty)(a:QE X o b)(hm:behindInMarks .NotIn o=false:=by with_unfolding_all rfl):QT X (.Compare i [.NotIn] [o] pos) (tB (a3r ty b)):=⟨aer (a89 c hi.run a.run) hm⟩
theorem jy(f:X.A.units+1<cLine)(b:QE X o c)(hi:QE X i ty)(d:QE X value e)(hs:swapsWith value (some (.Subscript o i a)) pos.line X.env=pure false:=by rfl):
 QS X (.Assign [.Subscript o i a] value pos) (yj c ty e):=⟨ad6 f b.run hi.run d.run hs⟩
theorem aas(j:X.A.units+1<cLine)(d:QE X o h)(i:QE X e ty)(c:QE X f g)(m:M2 X o "get" a e f b:=by exact⟨rfl,rfl,rfl,rfl⟩):
 QE X (.Call (.Attribute o "get" a) [e,f] [] b) (a7v h ty g):=⟨aa7 j d.run i.run c.run m⟩
theorem m5:jz X (.type "dict") (fun xs H Q=>∃a kvs,xs=[V.ref a]/\H a=some (.dK kvs)/\∀p,H p=none->Q (.ref p) (upd H p (.dK kvs))):=by
 intro b s σ H xs us Q I r h;obtain⟨a,kvs,rfl,ha,q⟩:=h;obtain⟨u,rfl,d⟩:=rg r;cases d;exact aar I (.inl ha) fun p s' hp c=>⟨.ref p,_,c,rfl,q p hp⟩
theorem a3q(h:(jh P w).is k v=true):RelV (kV k) v:=by
 rcases jr h with⟨i,t,rfl,rfl⟩|⟨x,t,rfl,rfl⟩
 . exact⟨t,rfl⟩
 . exact⟨t,rfl⟩
theorem a1y:∀{ks:List V}{vs:List Value},vs.length=ks.length->(∀(j:Nat) (v:Value),vs[j]? = some v->∃y,ks[j]? = some y/\RelV y v)->Vals ks vs
 | [],[],_,_=>.nil
 | k::ks,v::vs,hl,h=>by
  obtain⟨y,e,r⟩:=h 0 v rfl;cases e;exact .cons r (a1y (by simpa using hl) fun j u a=>h (j+1) u (by simpa using a))
theorem sy(hc:X.calm=true):jz X (.type "list") (fun xs H Q=>∃a kvs,xs=[V.ref a]/\H a=some (.dK kvs)/\∀p,H p=none->Q (.ref p) (upd H p (.lst (kvs.map fun kv=>kV kv.1)))):=by
 intro g s σ H xs us Q I r h;obtain⟨a,kvs,rfl,ha,q⟩:=h;obtain⟨u,rfl,t⟩:=rg r;cases t;obtain⟨z,hd,vs,rel,dd⟩:=o6 I.hok (.inl ha);have hl:=rel.length;obtain⟨ep,o⟩:=dd.dictAt;refine PySem.W.kdl_call (PySem.W.kdl_dict hd) (I.ok.hd hc) o (by rw[<- hl];exact z) fun h' tk f c m l b=>?_;refine⟨.ref s.heap.objs.size,_,I.laid (t':=tk) m (Ak _) (show ObjOk X.prog X.w _ h' _ (.lst (kvs.map fun kv=>kV kv.1)) from⟨by rw[Ad];exact z,f.toList,c,?_,by simpa using l⟩),rfl,q _ (I.hok.fresh (Ak _))⟩;refine a1y (by rw[Bi,Ad,hl];exact b.1) fun j v i=>?_;obtain⟨k,x,e,y⟩:=b.2 j v (by rw[<- BU];exact i);have n:=rel.keys;have d:(vs.map (·.1))[j]? = some k:=by rw[Am,e];rfl
 rw[<- n,Am] at d;refine⟨kV k,?_,a3q y⟩;rw[Am];cases hj:kvs[j]? with
 | none=>rw[hj] at d;cases d
 | some p=>rw[hj] at d;rw[<- A0 d];rfl
theorem xx:jz X (.builtin "sorted") (fun vs H Q=>∃(a:Addr) (c:List Str),vs=[.ref a]/\SqL X.K H a (c.map V.str)/\c.length<64/\
 ∀p zs,H p=none->zs.Perm c->sortedS zs=true->Q (.ref p) (upd H p (.lst (zs.map V.str)))):=by
 intro d s σ H vs us Q I r h;obtain⟨a,c,rfl,hq,hz,q⟩:=h;obtain⟨u,rfl,j⟩:=r.one;cases j;obtain⟨its,g,p,_⟩:=I.list hq;have hs:=vk g;have hl:its.length=c.length:=hs.length;refine sorted_strs p.isList hs (by lia) fun out zs m f k=>?_;obtain⟨e,l⟩:=sortedAll_at s.heap its out;have fr:H (s.heap.objs.size+1)=none:=I.hok.fresh (Bs _);have i:zs.length<64:=by rw[f.length_eq];exact hz
 exact⟨.ref (s.heap.objs.size+1),upd H (s.heap.objs.size+1) (.lst (zs.map V.str)),I.laid (t':=s.toks) (fun b o hb=>sortedAll_old hb) (Bs _) ⟨by rw[Ad];exact BK (l0 (by lia)),out.toList,e,vb m,by simpa [seqObj] using l⟩,rfl,q _ zs fr f k⟩
theorem xj:∀{ks:List (Key×Value)}{k:Key}{v:Value},(ks.map (·.1)).Nodup->(k,v)∈ks->valueAt ks k=some v
 | [],_,_,_,hm=>by simp at hm
 | q::r,k,v,hnd,hm=>by
  rw[Ar,AU] at hnd;unfold valueAt;by_cases hq:q.1=k
  . rcases Ah.mp hm with rfl|a
    . simp
    . exact absurd (Az.mpr ⟨(k,v),a,hq.symm⟩) hnd.1
  . rcases Ah.mp hm with rfl|a
    . exact absurd rfl hq
    . have:=xj hnd.2 a;unfold valueAt at this;simp only[BJ];simp[hq,this]
def abe:V->Bool
 | .byt _=>false
 | .flt _=>false
 | _=>true
theorem aam(d:abe v=true)(r:RelV v u)(c:RelV v e):HZ A s u e true:=by
 cases v with
 | non=>cases r;cases c;exact Ei _
 | bl b=>cases r;cases c;exact Ei _
 | int i =>
  obtain⟨t,rfl⟩:=r;obtain⟨t',rfl⟩:=c;have:=IJ (A:=A) (s:=s) i t i t';simpa using this
 | str x =>
  obtain⟨t,rfl⟩:=r;obtain⟨t',rfl⟩:=c;have:=Eo (A:=A) (s:=s) x t x t';simpa using this
 | byt b=>cases d
 | flt b=>cases d
 | ref a=>cases r;cases c;exact Ei _
 | ty n=>cases r;cases c;exact Ei _
theorem a17:∀ls:List (Key×Value),(∀p∈ls,∃y,valueAt kb p.1=some y/\HZ A s p.2 y true)->PySem.W.KeqHits A s kb ls true
 | [],_=>.nil
 | (k,v)::ls,h=>by
  obtain⟨y,b,a⟩:=h (k,v) (Af ..);have:=PySem.W.KeqHits.hit (A:=A) (s:=s) (kb:=kb) b a (a17 ls fun p hp=>h p (Al _ hp));simpa using this
theorem a57{h:Heap}(d:h.DictOf (jh P w) a vs):(vs.map (·.1)).Nodup:=by
 obtain⟨_,_,_,_,_,_,_,_,hn⟩:=d;exact hn
theorem a1h{L:List (Str×NameKind)}{cl:List (Str×Addr)}(b:cl.map (·.1)=ks)(a:(L.all fun y=>(match y.2 with|.cell=>false|.free=>false|_=>true) || decide (y.1∈ks))=true)(z:Str)(h:L.lookup z=some .cell\/L.lookup z=some .free):∃c,cl.lookup z=some c:=by
 have hm:z∈cl.map (·.1):=by
  rw[b];rcases h with h|h
  . have:=Dv.mp a _ (BQ h);simpa using this
  . have:=Dv.mp a _ (BQ h);simpa using this
 clear b a;induction cl with
 | nil=>simp at hm
 | cons p r ih =>
  rw[Cj];cases hb:z == p.1 with
  | true=>exact⟨_,rfl⟩
  | false =>
   rw[Ar,Ah] at hm;rcases hm with d|d
   . rw[d] at hb;simp at hb
   . exact ih d
theorem a1g{cl cells:List (Str×Addr)}(h:∀p∈cl,cells.lookup p.1=some p.2)(y:Str)(c:Addr)(e:cl.lookup y=some c):cells.lookup y=some c:=h (y,c) (BQ e)
inductive ClIn(cells:List (Str×Addr)):List (Str×Addr)->Prop
 | nil:ClIn cells []
 | cons{x:Str}{a:Addr}{r:List (Str×Addr)}:cells.lookup x=some a->ClIn cells r->ClIn cells ((x,a)::r)
theorem ClIn.all(h:ClIn cells cl):∀p∈cl,cells.lookup p.1=some p.2:=by
 induction h with
 | nil=>intro p hp;cases hp
 | cons h _ ih =>
  intro p hp;rcases Ah.mp hp with rfl|z
  . exact h
  . exact ih p z
inductive IxIn(X:Cx)(sc:Scope):List Nat->Prop
 | nil:IxIn X sc []
 | cons{j:Nat}{y:Str}{r:List Nat}:X.N[j]? = some y->X.env.kindOf y=some .cell->(relabel sc X.env).names.lookup y=some .cell->IxIn X sc r->IxIn X sc (j::r)
theorem IxIn.all(h:IxIn X b a):∀j∈a,∃y,X.N[j]? = some y/\X.env.kindOf y=some .cell/\(relabel b X.env).names.lookup y=some .cell:=by
 induction h with
 | nil=>intro p hp;cases hp
 | cons h1 h2 h3 _ ih =>
  intro p hp;rcases Ah.mp hp with rfl|z
  . exact⟨_,h1,h2,h3⟩
  . exact ih p z
theorem aa9(N:List Str)(i:List Nat)(hi:QI X (.Name x px) c v)(g:∀s H C ex,QTs (blk X N s H a cl C ex) h u)(t:∀s H C ex,QE (blk X N s H a cl C ex) o r)(f:closureFor a X.env=pure cl:=by rfl)(m:ClIn X.env.cells cl:=by repeat' first|with_unfolding_all rfl|constructor)(q:N=x::i.map (fun j=>(X.N[j]?).getD ""):=by rfl)(hnd:N.Nodup:=by decide +kernel)(n:cl.map (·.1)=N.tail:=by rfl)(l:((relabel a X.env).names.all fun y=>(match y.2 with|.cell=>false|.free=>false|_=>true) || decide (y.1∈N.tail))=true:=by with_unfolding_all rfl)(k:IxIn X a i:=by repeat' first|with_unfolding_all rfl|constructor)(p:a.names.lookup x=some .local:=by decide +kernel)(e:∀z∈a.names,z.2≠.cell:=by decide +kernel)(b:∀z∈a.names,z.2=.local->a.names.lookup z.1=some .local:=by decide +kernel)(hc:X.calm=true:=by rfl)(d:a.kind=.function:=by rfl)(hs:∀x,foldedSetIterable c X.env x=pure x:=by intro _;rfl):
 QE X (.ListComp o [⟨.Name x px,c,h,0⟩] a pos) (uc i v u r) :=
 ⟨a4k N hc hi.run (fun s H C ex=>(g s H C ex).run) (fun s H C ex=>(t s H C ex).run) d q hnd p f e b (a1g m.all) (a1h n l) k.all hs⟩
theorem ub(N:List Str)(q:List Nat)(p:X.N.Nodup)(w:X.N[i]? = some h)(m:Loc X.env.scope h)(hi:QI X (.Name x px) b L)(o:∀s H C ex,QTs (blk X N s H a cl C ex) g J)(I:∀s H C ex,QE (blk X N s H a cl C ex) k G)(l:swapsWith (.ListComp k [⟨.Name x px,b,g,0⟩] a pos) (some (.Name h D)) f.line X.env=pure true:=by rfl)(A:X.fn h=true\/X.env.scope.names.lookup h=some .local:=by first|exact .inl rfl|exact .inr rfl|assumption)(n:closureFor a X.env=pure cl:=by rfl)(u:ClIn X.env.cells cl:=by repeat' first|with_unfolding_all rfl|constructor)(F:N=x::q.map (fun j=>(X.N[j]?).getD ""):=by rfl)(hnd:N.Nodup:=by decide +kernel)(v:cl.map (·.1)=N.tail:=by rfl)(t:((relabel a X.env).names.all fun y=>(match y.2 with|.cell=>false|.free=>false|_=>true) || decide (y.1∈N.tail))=true:=by with_unfolding_all rfl)(r:IxIn X a q:=by repeat' first|with_unfolding_all rfl|constructor)(E:a.names.lookup x=some .local:=by decide +kernel)(e:∀z∈a.names,z.2≠.cell:=by decide +kernel)(c:∀z∈a.names,z.2=.local->a.names.lookup z.1=some .local:=by decide +kernel)(hc:X.calm=true:=by rfl)(d:a.kind=.function:=by rfl)(hs:∀x,foldedSetIterable b X.env x=pure x:=by intro _;rfl):
 QS X (.Assign [.Name h D] (.ListComp k [⟨.Name x px,b,g,0⟩] a pos) f) (tAsg (uc q L J G) (gq i)) :=
 ⟨a5l N p w m l A hc hi.run (fun s H C ex=>(o s H C ex).run) (fun s H C ex=>(I s H C ex).run) d F hnd E n e c (a1g u.all) (a1h v t) r.all hs⟩
theorem af2(b:QE X e c)(hb:attributeBase e a X.env (eval e X.env)=eval e X.env:=by rfl):QE X (.Attribute e a pos) (tFld X.K c a):=⟨aej b.run hb⟩
theorem aev(ha:QE X o c)(e:QE X value d)(hs:swapsWith value (some (.Attribute o b a)) pos.line X.env=pure false:=by rfl):QS X (.Assign [.Attribute o b a] value pos) (sFld X.K c d b):=⟨aey ha.run e.run hs⟩
theorem jm(n:QE X o j)(c:Cls X.K C)(hm:Meth X.K C m f)(F:FnOk X.prog X.w X.K X.mg X.base CX k f fd ps sp)(i:Room k X.A)(hb:Binds X.K fd ps ds)(hd:Vals g ds)(l:m9 CX X E)(ha:QA X (e::es) t)(d:starEach (e::es) X.env=(false,eval e X.env)::starEach es X.env:=by rfl)(b:(backTo pos (starEach es X.env)).any (·.1)=false:=by rfl)(ht:eval (.Call (.Attribute o m a) (e::es) [] pos) X.env=(do
 let h<-eval o X.env
 standAt a.atName
 let (f,first)<-holding [h] (getMethod h m pl)
 callWith pos f first (backTo pos (starEach (e::es) X.env)) (backToKw pos (keywordEach [] X.env))):=by rfl):
 QE X (.Call (.Attribute o m a) (e::es) [] pos) (sd C m sp g E j t):=⟨abp n.run c hm F i hb hd l ha.run d b ht⟩
theorem jj(h:QE X o g)(c:Cls X.K C)(hm:Meth X.K C m f)(F:FnOk X.prog X.w X.K X.mg X.base CX k f fd ps sp)(e:Room k X.A)(hb:Binds X.K fd ps ds)(hd:Vals b ds)(i:m9 CX X E)(ht:eval (.Call (.Attribute o m a) [] [] pos) X.env=(do
 let d<-eval o X.env
 standAt a.atName
 let (f,first)<-holding [d] (getMethod d m pl)
 callWith pos f first (backTo pos (starEach [] X.env)) (backToKw pos (keywordEach [] X.env))):=by rfl):
 QE X (.Call (.Attribute o m a) [] [] pos) (sd C m sp b E g tNil):=⟨aaa h.run c hm F e hb hd i ht⟩
theorem vr(M:Mk X.K C f)(F:FnOk X.prog X.w X.K X.mg X.base CX k f fd ps sp)(d:Room (k+1) X.A)(i:Gl X x)(hm:X.mg x=some (.ref C))(hb:Binds X.K fd ps ds)(hd:Vals b ds)(h:m9 CX X E)(ha:QA X (e::es) t)(c:(x == ("__debug__" : Str))=false:=by decide)(g:starEach (e::es) X.env=(false,eval e X.env)::starEach es X.env:=by rfl)(a:(backTo pos (starEach es X.env)).any (·.1)=false:=by rfl):
 QE X (.Call (.Name x p) (e::es) [] pos) (aaz C sp b E t):=⟨ad1 M F d i hm hb hd h ha.run c g a⟩
theorem a1v(f:s.heap.IsKeyIter J d n es.size ep)(h:s.heap.get? d=some od)(g:od.data=.dict es ep)(k:A.handled=none)(l:∀(hn:n<es.size) h',h'.IsKeyIter J d (n+1) es.size ep->Cu J s.heap h'->Q (some es[n].key) { s with heap:=h' })(i:es.size<=n->∀h',Ho J s.heap h'->Q none { s with heap:=h' }):
 wpAny (model prog w) A (pyNext (.ref J)) Q E s:=by
 obtain⟨o,g1,j,c⟩:=id f;have ty:=f.typeIs;have no:Builtin.Dict_items.ownsTuple "dict_keyiterator" = false:=by decide
 have nn:¬ ((Value.ref d == Value.none)=true):=Ai;have pos:¬ ((n:Int)<0):=by lia
 unfold pyNext;refine Aa (Di (Bm (name:=Bf "__next__") ty EI (Bp EI ty PySem.F.entry_dict_keyiterator_next ?_ (PySem.F.args_dict_keyiterator_next_1 _))));refine Aa (Ae (Aa (Aa ?_)))
 first|refine Aa (DK ty (Ae (Aa (Fs g1 c ?_))))|refine Aa (Eu ty (Ae (Aa (Fs g1 c ?_))))
 simp only[no,By,if_false];show wpAny _ _ (if (Value.ref d == Value.none)=true then _ else _) _ _ s;rw[if_neg nn];refine Aa (Ae (Aa (Ja h g ?_)));rw[if_neg (by simp)];refine Aa (Ae (Aa (wpAny_dictEpoch h g ?_)));rw[if_neg (by simp)];refine Ae ?_;by_cases hn:n<es.size
 . simp only[pos,if_false,Bo,Gc hn];refine Aa ?_
   first|refine Aa (DK ty (Ae (Aa (EU ty ?_))))|refine Aa (Eu ty (Ae (Aa (EU ty ?_))))
   show wpAny _ _ (setField (.ref J) 1 (rawInt ((n:Int)+1)) >>= _) _ _ s;refine Aa (Fu g1 c (by simp) ?_);have e:(s.heap.update J (FM (·.setIfInBounds 1 (rawInt ((n:Int)+1))))).IsKeyIter J d (n+1) es.size ep:=⟨_,B7 _ g1 (DS (CV c _)),(EJ ..).trans j,(by rw[CV c];simp[rawInt])⟩
   refine Aa (AX (Aa (EU (s:={ s with heap:=s.heap.update J (FM (·.setIfInBounds 1 (rawInt ((n:Int)+1)))) }) e.typeIs ?_)));exact Ae (Ae ⟨_,rfl,Ae (l hn _ e (CK ..))⟩)
 . simp only[pos,if_false,Bo,Array.getElem?_eq_none (Gh hn)];refine Aa ?_
   first|refine Aa (DK ty (Ae ?_))|refine Aa (Eu ty (Ae ?_))
   show wpAny _ _ (setField (.ref J) 0 .none >>= _) _ _ s;refine Aa (Fu g1 c (by simp) (Aa ?_));simp only[newExc,newTuple];refine Aa (AZ ?_ (by size_fits));refine Aa (m:=firstArgMember _ _) (EM (a:=Value.none) (by first|rfl|(simp only[firstArgMember];rfl)) (AZ ?_ (by size_fits)));simp only[raiseNew];refine Aa (wpAny_handled ?_);rw[show A.in1.handled=none from k];refine Aa (Ae (wpAny_throw ?_));have sub:=Ft;refine Aa (DZ (T := "StopIteration") (b:=true) ⟨_,An _ rfl,rfl⟩ sub ?_);exact Ae (i (Gh hn) _ (((CK ..).extBut.push _).push _))
theorem a90(hd:(d == sysModules)=false)(a:s.heap.get? d=some od)(hc:od.ExactDict)(b:od.data=.dict es ep)(q:Q (.ref s.heap.objs.size) { s with heap:=s.heap.push { cls:=.type "dict_keyiterator",data:=.fields #[.ref d,.int 0 0,.int es.size 0,.int ep 0] } }):wpAny (model prog w) A (pyIter (.ref d)) Q E s:=by
 have ty:s.TypeIs (.ref d) "dict" := ⟨od,a,hc.1⟩
 refine FU ty Hq (Bp Hq ty PySem.F.entry_dict_iter ?_ (PySem.F.args_dict_iter_1 _));unfold Builtin.«dict.__iter__»;refine Aa ?_;unfold Builtin.Dict.dictSlotNone;refine Aa (EV ty (Ae ?_));show wpAny _ _ (HN d >>= _) _ _ s;unfold HN;rw[if_neg (show ¬ (d == sysModules)=true by rw[hd];exact Ai)];refine Aa (Ae (Aa (Ja a b (Aa (wpAny_dictEpoch a b ?_)))));exact Aa (AZ (Ae ⟨_,rfl,"dict_keyiterator",_,⟨_,An _ rfl,rfl⟩,PySem.F.slot_dict_keyiterator_next.lookup,q⟩))
def NF(X:Cx)(a:Addr):Prop:=∀o u,X.H₀ a≠some (.frz o u)
theorem Inv.nf(I:Inv X b σ H s)(e:H a=some u)(c:∀o v,u≠.frz o v):NF X a:=fun o v z=>by
 have:=I.base.frzs a o v z;rw[e] at this;exact c o v (A0 this)
theorem Inv.thaw(I:Inv X d σ H s)(e:H a=some (.frz o u))(nf:NF X a):Inv X d σ (upd H a u) s:=by
 have k:∀b v,H b=some v->(∀f g,v≠.frz f g)->(upd H a u) b=some v:=fun b v q n=>by
  rw[fq fun z=>by rw[z,e] at q;exact n o u (A0 q).symm];exact q
 have k0:∀b,H b=none->(upd H a u) b=none:=fun b q=>by
  rw[fq fun z=>by rw[z,e] at q;cases q];exact q
 have hok:HOk X.prog X.w (upd H a u) s.heap:=fun b v q=>by
  have st:∀{c:Addr} {i:HO},ObjOk X.prog X.w H s.heap c i->ObjOk X.prog X.w (upd H a u) s.heap c i:=fun x=>x.stay (fun _ _ _ z=>z) (fun c z=>k c _ z fun _ _ y=>by cases y) fun c xs z=>k c _ z fun _ _ y=>by cases y
  by_cases hb:b=a
  . subst hb;rw[ft] at q;cases q;exact st (I.hok b _ e).2
  . rw[fq hb] at q;exact st (I.hok b v q)
 have bs:=I.base;refine⟨I.ok,I.os,I.bare,⟨bs.keep,bs.slot,fun b ob q n j=>k0 b (bs.free b ob q n j),bs.there,fun b xs q=>k b _ (bs.tups b xs q) (fun _ _ y=>nomatch y),fun b f g q=>?_,fun b ps q=>?_⟩,I.loc,I.cell,k0 _ I.free,fun x c z=>k0 _ (I.freeC x c z),fun p hp=>?_,hok,I.len⟩
 . have h:=bs.frzs b f g q;rw[fq fun z=>by rw[z] at q;exact nf f g q];exact h
 . obtain⟨m,h⟩:=bs.tbls b ps q;exact⟨m,k b _ h fun _ _ y=>by cases y⟩
 . obtain⟨p1,p2,p3⟩:=I.pin p hp;exact⟨p1,k0 _ p2,p3⟩
def afi(X:Cx)(t:TE):TE:=fun σ H Q=>t σ H fun v H2=>∃a o u,H2 a=some (.frz o u)/\NF X a/\Q v (upd H2 a u)
theorem adb(h:QE X ex t):QE X ex (afi X t):=⟨fun b s σ H Q I q=>thn (h.run b s σ H _ I q) fun f g ⟨v,i,c,r,a,o,u,e,nf,d⟩=>⟨v,_,c.thaw e nf,r,d⟩⟩
end L2
namespace HT
open PySem PySem.Spec PyProof.Rows L2
theorem getItem_tuple_whole{lo:Option Int}(ht:IsTup s.heap t items)(hs:s.heap.IsSliceOf e f g .none)(pl:IsPart f lo)(i:IsPart g hi)(k:sIx items.size 0 lo=0)(j:sIx items.size items.size hi=items.size)(h:Q (.ref t) s):wpAny (model prog w) A (getItem (.ref t) (.ref e)) Q E s:=by
 obtain⟨os,d,b,l⟩:=id hs;have c:s.TypeIs (.ref e) "slice" := ⟨os,d,b⟩
 unfold getItem
 try with_reducible refine AX ?_
 first|refine Aa (Ae ?_)|skip
 refine Aa (IT ht.typeIs (by decide) ?_);refine Aa (Bm (name:=Bf "__getitem__") ht.typeIs BN
  (Bp BN ht.typeIs entry_tuple_getitem ?_ (args_tuple_getitem _ _)))
 show wpAny _ _ (FJ (.ref t) >>= _) _ _ s;refine Aa (tupleItemsOf_ ht ?_);refine Aa (CT c ?_);rw[if_pos (by decide)];refine Aa (qj hs pl i ?_);have a:((((sIx items.size 0 lo:Nat):Int) == 0 && (1:Int) == 1 && (sIx items.size items.size hi - sIx items.size 0 lo) == items.size)=true):=by
  rw[k,j];simp
 show wpAny _ _ (if (((sIx items.size 0 lo:Nat):Int) == 0 && (1:Int) == 1 && (sIx items.size items.size hi - sIx items.size 0 lo) == items.size)=true then _ else _) _ _ s;rw[if_pos a];unfold Builtin.Tuple.tupleIsExact;refine Aa (Aa (CT ht.typeIs (Ae ?_)));rw[if_pos (by decide)];refine Aa (Cz ?_);exact Ae ⟨_,rfl,Ae h⟩
theorem cat_tup0{ws:List Value}(ht:IsTup s.heap t vs.toArray)(hb:IsTup s.heap b ws.toArray)(j:vs=[])(l:Q (.ref b) s):wpAny (model prog w) A (binaryOp .Add (.ref t) (.ref b)) Q E s:=by
 obtain⟨⟨cls,dd,data,k⟩,h,hc,n,hd⟩:=id ht;obtain⟨⟨i,e,f,g⟩,d,a,n2,c⟩:=id hb;simp only at hc hd a c;subst hc hd a c;exact IF ⟨_,h,rfl⟩ ⟨_,d,rfl⟩ Gf Ii EL EA (En _ _)
  (tuple_addW0 t b vs.toArray ws.toArray n n2 dd e k g (by simp[j])) ⟨h,d,l⟩
end HT
namespace L2
open PySem PySem.Spec PyProof.Rows
theorem a56{lo:Option Int}(b:HT.sIx xs.length 0 lo=0)(a:HT.sIx xs.length xs.length hi=xs.length):cutV xs lo hi=xs:=by
 unfold cutV;rw[b,a,CO,Es,BP]
def a0y(K:Ac):V->Option Int->Option Int->Hp->VK->Prop:=fun x lo hi H Q=>∃a xs,x=.ref a/\SqT K H a xs/\∀p H',Same H H'->SqT K H' p (cutV xs lo hi)->Q (.ref p) H'
theorem og:SlR X (a0y X.K):=by
 intro c s σ H x v i j lo hi k Q I f hs pl g h;obtain⟨a,xs,rfl,e,q⟩:=h;by_cases d:HT.sIx xs.length 0 lo=0/\HT.sIx xs.length xs.length hi=xs.length
 . cases f;obtain⟨its,r,ht,hz⟩:=I.tuple e;have b:its.toArray.size=xs.length:=by rw[Aq];exact r.length.symm
   refine⟨"tuple",_,BN.lookup,ht.typeIs,?_⟩;refine HT.getItem_tuple_whole ht hs pl g (by rw[b];exact d.1) (by rw[b];exact d.2) ?_;refine⟨.ref a,H,I,rfl,q a H (Same.refl _) ?_⟩;rw[a56 d.1 d.2];exact e
 . exact zh c s σ H (.ref a) v i j lo hi k Q I f hs pl g ⟨a,xs,rfl,e,d,fun p hp=>q p _ (gc hp _) (SqT.of ft)⟩
def a7o(K:Ac):R2:=fun x y H Q=>∃a b xs ys,x=.ref a/\y=.ref b/\SqT K H a xs/\SqT K H b ys/\xs.length+ys.length<=sizeLine/\∀p H',Same H H'->SqT K H' p (xs++ys)->Q (.ref p) H'
theorem a2v:OpR X (binaryOp .Add) (a7o X.K):=by
 intro c s σ H x y v u Q I e f h;obtain⟨a,b,xs,ys,rfl,rfl,ha,hb,hz,q⟩:=h;by_cases d:xs=[]
 . cases e;cases f;obtain⟨its,i,p1,_⟩:=I.tuple ha;obtain⟨g,j,p2,_⟩:=I.tuple hb;refine HT.cat_tup0 p1 p2 (i.nil_iff.mpr d) ⟨.ref b,H,I,rfl,q b H (Same.refl _) ?_⟩;rw[d];exact hb
 . exact vp c s σ H (.ref a) (.ref b) v u Q I e f ⟨a,b,xs,ys,rfl,rfl,ha,hb,d,hz,fun z=>q a H (Same.refl _) (by rw[z,Da];exact ha),fun _ p hp=>q p _ (gc hp _) (SqT.of ft)⟩
def Itr2(lo:Int)(n:Nat):It:=⟨fun i _=>i<n,fun i H x H'=>H'=H/\x=.int (lo+i*2),fun i _=>n<=i⟩
theorem a2y{K:Ac}(it:Addr)(lo:Int)(n:Nat):Turn P w K A (Itr2 lo n) [it] it (fun i h=>IsRangeIter h it (lo+(i:Nat)*2) ((n:Int) - (i:Nat)) 2) where
 mem:=by simp
 obj:=fun i h st b hb=>by
  obtain rfl:b=it:=by simpa using hb
  exact⟨_,st,fun v z=>by
   have y:Data.fields _=Data.cell v:=z;cases y⟩
 keep:=fun i h h' st k=>k it (by simp) _ st
 item:=by
  intro X m g hK hc i a s σ H E I d st l;subst m g hK;obtain⟨q,f1,f2,p,j,f⟩:=d it (by simp);refine (JN (prog:=X.prog) (w:=X.w) (I.ok.hd hc) it lo 2 n).item i s _ _ l st fun v h' tk u c kk=>?_;obtain⟨t,rfl⟩:=u;have r:Inv X a σ H { s with heap:=h',toks:=tk }:=I.turned (fun b o hb e=>kk b o (by simpa using hb) e) q f1 p j f;exact⟨_,rfl,yr (s:={ s with heap:=h',toks:=tk }) (n := "range_iterator") c rfl rfl (by decide) ⟨.int (lo+i*2),H,r,⟨t,rfl⟩,⟨rfl,rfl⟩,c,fun b hb=>(d b hb).1⟩⟩
 done:=by
  intro X m g hK hc i a s σ H E I d st l;subst m g hK;obtain⟨q,f1,f2,p,j,f⟩:=d it (by simp);exact Hi (I.ok.hd hc) st (by have:n<=i:=l;lia) fun h' x=>⟨rfl,I.turned (t':=s.toks) (fun b o hb e=>x b o hb e) q f1 p j f⟩
 self:=fun _ _ _ _ _ st h=>Hj st h
theorem a79(e : -1000000<=a)(d:a<1000000)(g : -1000000<=b)(f:b<1000000):Im a b 2=true:=by
 have c:∀{x:Int},-10000000<=x->x<10000000->FB x=true:=fun {x} y z=>by
  unfold FB;simp only[BO,decide_eq_true_eq]
  lia
 have sz:Co a b 2=(((b - a+1) / 2).toNat:Int):=by
  unfold Co;rw[if_pos (by decide)];split<;>lia
 unfold Im;rw[sz,c (by lia) (by lia),c (by lia) (by lia),c (by decide) (by decide),c (by lia) (by lia),if_pos (by decide),c (by lia) (by lia)];simp
theorem ack:Fv x 2=false:=by
 unfold Fv;have:decide ((if ((2:Int) == 0)=true then 0 else (2:Int).natAbs.log2 / 30+1)>300)=false:=by decide +kernel
 simp only[this,Fo]
theorem a9v:Co a b 2=(((b - a+1) / 2).toNat:Int):=by
 unfold Co;rw[if_pos (by decide)];split<;>lia
theorem a7b{lo:Int}(I:Inv X a σ H s)(i : -1000000<=lo)(h:lo<1000000)(d : -1000000<=hi)(j:hi<1000000)(q:R (Itr2 lo ((hi - lo+1) / 2).toNat) H):wpAny (model X.prog X.w) X.A (pyIter (.ref s.heap.objs.size)) (PIE X a σ k R) E { s with heap:=s.heap.push { cls:=.type "range",data:=.fields #[.int lo t,.int hi u,.int 2 v] },toks:=tk }:=by
 refine Iw (JO ..) (a79 i h d j) ?_;have c:Inv X a σ H { s with heap:=s.heap.push { cls:=.type "range",data:=.fields #[.int lo t,.int hi u,.int 2 v] },toks:=tk }:=I.kept fun b o e=>Ab _ e;refine⟨(s.heap.push { cls:=.type "range",data:=.fields #[.int lo t,.int hi u,.int 2 v] }).objs.size,[(s.heap.push { cls:=.type "range",data:=.fields #[.int lo t,.int hi u,.int 2 v] }).objs.size],_,_,H,rfl,
  c.kept (t':=tk) fun b o e=>Ab _ e,a2y _ lo ((hi - lo+1) / 2).toNat,?_,fun b hb=>?_,q⟩
 . have g:lo+((0:Nat):Int)*2=lo:=by simp
   have f:((((hi - lo+1) / 2).toNat:Nat):Int) - ((0:Nat):Int)=Co lo hi 2:=by rw[a9v];lia
   show IsRangeIter _ _ (lo+((0:Nat):Int)*2) (((((hi - lo+1) / 2).toNat:Nat):Int) - ((0:Nat):Int)) 2;rw[g,f];exact An _ rfl
 . obtain rfl:b=(s.heap.push { cls:=.type "range",data:=.fields #[.int lo t,.int hi u,.int 2 v] }).objs.size:=by simpa using hb
   exact c.fpOk (Ak _) (c.hok.fresh (Ak _))
def ab2(ta:TA):TI:=fun σ H R=>ta σ H fun vs H1=>∃i j:Int,vs=[.int i,.int j,.int 2]/\(-1000000<=i/\i<1000000 /\ -1000000<=j/\j<1000000)/\R (Itr2 i ((j - i+1) / 2).toNat) H1
theorem a7h(w:Gl X "range")(hm:X.mg "range" = none)(ha:PA X [a,b,c] k)(hs:starEach [a,b,c] X.env=[(false,eval a X.env),(false,eval b X.env),(false,eval c X.env)]:=by rfl)(d:starEach [b,c] X.env=[(false,eval b X.env),(false,eval c X.env)]:=by rfl):
 PI X y (.Call (.Name "range" p) [a,b,c] [] pos) (ab2 k):=by
 intro f s σ H R I h;refine Call_ (nz I w hm boot_range (BL (thn (ha pos f s σ H _ I h) fun us x ⟨vs,z,l,n,g⟩=>?_) (by rw[hs,d]) (by rw[d];rfl)));obtain⟨i,j,e,⟨g,o,u,m⟩,q⟩:=g;subst e;cases n with
 | cons r rr =>
  cases rr with
  | cons r' rr =>
   cases rr with
   | cons r'' rr =>
    cases rr;obtain⟨t,rfl⟩:=r;obtain⟨t',rfl⟩:=r';obtain⟨v,rfl⟩:=r'';exact call_range_3 (by decide) (a7b l g o u m q) (.inl ack)
theorem a6j(f:Gl X "range")(hm:X.mg "range" = none)(ha:QA X [a,b,c] e)(hs:starEach [a,b,c] X.env=[(false,eval a X.env),(false,eval b X.env),(false,eval c X.env)]:=by rfl)(d:starEach [b,c] X.env=[(false,eval b X.env),(false,eval c X.env)]:=by rfl):QI X g (.Call (.Name "range" p) [a,b,c] [] pos) (ab2 e):=⟨a7h f hm ha.run hs d⟩
theorem a5i{lo:Int}{g:TG}{f:TS}{D:Ends}(a:Nat->St->Hp->Prop)(h0:a 0 σ H)(hs:∀i σ H,i<n->a i σ H->g (.int (lo+i*2)) σ H fun b e=>f { D with nx:=a (i+1),ct:=a (i+1),bk:=D.nx } b e)(hd:∀σ H,a n σ H->D.nx σ H):
 ∃W:Nat->Nat->St->Hp->Prop,(∃m,W 0 m σ H)/\∀i m σ H,W i m σ H->
  ((Itr2 lo n).stop i H/\D.nx σ H)\/((Itr2 lo n).go i H/\∃N:St->Hp->Prop,(∀d H',N d H'->∃h,h<m/\W (i+1) h d H')/\∀x H',(Itr2 lo n).yld i H x H'->g x σ H' fun b e=>f { D with nx:=N,ct:=N,bk:=D.nx } b e):=by
 refine⟨fun i m σ H=>m=n - i/\i<=n/\a i σ H,⟨n,rfl,AH _,h0⟩,?_⟩;rintro i m σ H ⟨rfl,hi,hp⟩;by_cases c:i<n
 . refine .inr ⟨c,a (i+1),fun d H' z=>⟨n - (i+1),by lia,rfl,c,z⟩,fun x H' y=>?_⟩;obtain⟨rfl,rfl⟩:=y;exact hs i σ _ c hp
 . obtain rfl:i=n:=by lia
   exact .inl ⟨Ak _,hd σ H hp⟩
def Itk(a:Addr)(od:Obj)(kvs:List (Key×V)):It where
 go:=fun i H=>H a=some (.frz od (.dK kvs))/\i<kvs.length
 yld:=fun i H x H'=>H'=H/\(kvs.map fun kv=>kV kv.1)[i]? = some x
 stop:=fun i H=>H a=some (.frz od (.dK kvs))/\kvs.length<=i
def ab8(od:Obj)(kvs:List (Key×V))(es:Array DictEntry)(ep:Nat):Prop:=od.ExactDict/\od.data=.dict es ep/\Paired (fun (p:Key×V) (e:DictEntry)=>RelV (kV p.1) e.key) kvs es.toList
theorem a5z{P:Program}{w:World}{od:Obj}{es:Array DictEntry}{ep:Nat}:∀{kvs:List (Key×V)}{vs:List (Key×Value)}{l:List DictEntry},KV kvs vs->PySem.Pairs (jh P w) l vs->Paired (fun (p:Key×V) (e:DictEntry)=>RelV (kV p.1) e.key) kvs l
 | _,_,_,.nil,.nil=>.nil
 | _,_,_,.cons h t,.cons h1 h2 t2=>.cons (by rw[h.1];exact a3q h1) (a5z (od:=od) (es:=es) (ep:=ep) t t2)
theorem Paired.nthK:∀{l₁:List α}{l₂:List β}{i:Nat}{a:α}{b:β},Paired F l₁ l₂->l₁[i]? = some a->l₂[i]? = some b->F a b
 | _,_,0,_,_,.cons h t,h1,h2=>by cases h1;cases h2;exact h
 | _,_,i+1,_,_,.cons h t,h1,h2=>Paired.nthK (i:=i) t (by simpa using h1) (by simpa using h2)
theorem abz{K:Ac}(hd:ab8 od kvs es ep):
 Turn P w K tg (Itk a od kvs) [J] J (fun i h=>h.IsKeyIter J a i es.size ep) where
 mem:=by simp
 obj:=fun i h st b hb=>by
  have e:b=J:=by simpa using hb
  subst e;obtain⟨o,h1,h2,h3⟩:=st;exact⟨o,h1,fun v z=>by rw[h3] at z;cases z⟩
 keep:=fun i h h' st k=>by
  obtain⟨o,h1,h2⟩:=st;exact⟨o,k J (by simp) o h1,h2⟩
 item:=by
  intro X hP hw hK hc i pins s σ H E I hf st hg;subst hP hw hK;obtain⟨f0,f1,f2,f3,f4,f5⟩:=hf J (by simp);obtain⟨g1,g2⟩:=I.hok a _ hg.1;have hsz:es.size=kvs.length:=by
   have:=hd.2.2.length;rw[Bi] at this;exact this.symm
  refine a1v st g1 hd.2.1 (I.ok.hd hc) (fun hn h' st' sb=>?_) (fun hn=>absurd hg.2 (by lia));have I1:Inv X pins σ H { s with heap:=h',toks:=s.toks }:=I.turned (fun b o hb e=>(sb.2 b hb).trans e) f0 f1 f3 f4 f5;have hk:RelV (kV (kvs[i]'hg.2).1) es[i].key:=Paired.nthK (F:=fun (p:Key×V) (e:DictEntry)=>RelV (kV p.1) e.key) hd.2.2 (i:=i) (a:=kvs[i]'hg.2) (b:=es[i]) (Ag hg.2) (by rw[BU];exact Gc hn);refine⟨_,rfl,letGo_keyiter st' ⟨kV (kvs[i]'hg.2).1,H,I1,hk,⟨rfl,by rw[Am,Ag hg.2];rfl⟩,st',fun b hb=>(hf b hb).1⟩⟩
 done:=by
  intro X hP hw hK hc i pins s σ H E I hf st hg;subst hP hw hK;obtain⟨f0,f1,f2,f3,f4,f5⟩:=hf J (by simp);obtain⟨g1,g2⟩:=I.hok a _ hg.1;have hsz:es.size=kvs.length:=by
   have:=hd.2.2.length;rw[Bi] at this;exact this.symm
  exact a1v st g1 hd.2.1 (I.ok.hd hc) (fun hn=>absurd hg.2 (by lia)) (fun _ h' eb=>⟨rfl,I.turned (t':=s.toks) (fun b o hb e=>eb b o hb e) f0 f1 f3 f4 f5⟩)
 self:=fun _ _ _ _ _ st h=>wpAny_pyIter_keyiter st h
def a6p(X:Cx)(tl:TE):TI:=fun σ H R=>tl σ H fun x H1=>∃a kvs,x=.ref a/\H1 a=some (.dK kvs)/\∀od,NF X a->R (Itk a od kvs) (upd H1 a (.frz od (.dK kvs)))
theorem a9x{X:Cx}{u l:Expr}{tl:TE}(hl:PE X l tl):PI X u l (a6p X tl):=by
 intro d s σ H R I h;refine thn (hl d s σ H _ I h) fun v c ⟨x,m,i,t,a,kvs,ex,e,q⟩=>?_;subst ex;cases t;obtain⟨z,hd,vs,rel,od,es,ep,f,hc,j,r,n,p⟩:=(show ObjOk X.prog X.w m c.heap a (.dK kvs) from i.hok a _ e)
 have k:Inv X d σ (upd m a (.frz od (.dK kvs))) c:=i.write (x:=a) (e:=a) (h':=c.heap) (t':=c.toks) (by rw[e];exact True.intro) (.inl rfl) (fun _ _ _ z=>z) ⟨od,f⟩ ⟨f,z,hd,vs,rel,od,es,ep,f,hc,j,r,n,p⟩;have g:ab8 od kvs es ep:=⟨hc,j,a5z (od:=od) (es:=es) (ep:=ep) rel n⟩
 refine a90 hd f hc j ?_;refine⟨c.heap.objs.size,[c.heap.objs.size],_,_,upd m a (.frz od (.dK kvs)),rfl,k.kept (t':=c.toks) fun b o e=>Ab _ e,abz g,⟨_,An _ rfl,rfl,rfl⟩,fun b hb=>?_,q od (i.nf e fun _ _ z=>nomatch z)⟩;have e:b=c.heap.objs.size:=by simpa using hb
 subst e;exact k.fpOk (Ak _) (k.hok.fresh (Ak _))
theorem yh(hl:QE X l tl):QI X a l (a6p X tl):=⟨a9x hl.run⟩
def a1a(X:Cx)(t:TS):TS:=fun D σ H=>t { D with nx:=fun σ' H'=>∃a o u,H' a=some (.frz o u)/\NF X a/\D.nx σ' (upd H' a u) } σ H
theorem a4c{st:Stmt}(h:QS X st t):QS X st (a1a X t):=⟨fun b s σ H D I q=>thn (h.run b s σ H _ I q) fun f i p=>by
 cases f with
 | next=>obtain⟨g,H',c,a,o,u,e,nf,d⟩:=p;exact⟨g,_,c.thaw e nf,d⟩
 | brk=>exact p
 | cont=>exact p
 | ret u=>exact p⟩
theorem a0m{g:TG}{j:TS}{D:Ends}(b:Nat->St->Hp->Prop)(h0:b 0 σ H)(hl:∀i σ H,i<=kvs.length->b i σ H->H a=some (.frz od (.dK kvs)))(hs:∀i x σ H,(kvs.map fun kv=>kV kv.1)[i]? = some x->b i σ H->g x σ H fun d h=>j { D with nx:=b (i+1),ct:=b (i+1),bk:=D.nx } d h)(hd:∀σ H,b kvs.length σ H->D.nx σ H):
 ∃W:Nat->Nat->St->Hp->Prop,(∃m,W 0 m σ H)/\∀i m σ H,W i m σ H->
  ((Itk a od kvs).stop i H/\D.nx σ H)\/((Itk a od kvs).go i H/\∃N:St->Hp->Prop,(∀f H',N f H'->∃k,k<m/\W (i+1) k f H')/\∀x H',(Itk a od kvs).yld i H x H'->g x σ H' fun d h=>j { D with nx:=N,ct:=N,bk:=D.nx } d h):=by
 refine⟨fun i m σ H=>m=kvs.length - i/\i<=kvs.length/\b i σ H,⟨kvs.length,by simp,AH _,h0⟩,?_⟩;rintro i m σ H ⟨rfl,hi,p⟩;have q:=hl i σ H hi p;by_cases c:i<kvs.length
 . refine .inr ⟨⟨q,c⟩,b (i+1),fun f H' l=>⟨kvs.length - (i+1),by lia,rfl,c,l⟩,fun x H' y=>?_⟩;obtain⟨e,y⟩:=y;subst e;exact hs i x σ _ y p
 . have e:i=kvs.length:=by lia
   subst e;exact .inl ⟨⟨q,Ak _⟩,hd σ H p⟩
open PySem.Builtin
def a4h(K:Ac)(J:It)(H1:Hp)(σ:St)(ix:List Nat)(tc:TT)(te:TE)(Q:VK):Prop:=∀D,H1 D=none->
 ∃W:Nat->Nat->Hp->Prop,(∃m,W 0 m (upd H1 D (.lst [])))/\∀i m H,W i m H->
  (J.stop i H/\Q (.ref D) H)\/(J.go i H/\∀x H',J.yld i H x H'->∃p a b,x=.ref p/\SqT K H' p [a,b]/\tc (some a::some b::j5 σ ix) H' fun c H2 =>
   if c=true then te (some a::some b::j5 σ ix) H2 fun y H3=>∃ys,H3 D=some (.lst ys)/\ys.length<sizeLine/\∃m',m'<m/\W (i+1) m' (upd H3 D (.lst (ys++[y])))
   else ∃m',m'<m/\W (i+1) m' H2)
def a8j(K:Ac)(ix:List Nat)(wi:TI)(tc:TT)(te:TE):TE:=fun σ H Q=>wi σ H fun J H1=>a4h K J H1 σ ix tc te Q
theorem aak(I:Inv X C σ H s)(n:F.kind=.function)(W:N=x::x2::A.map fun j=>(X.N[j]?).getD "")(d:∀y c,cl.lookup y=some c->X.env.cells.lookup y=some c)(h:∀y,((relabel F X.env).names.lookup y=some .cell\/(relabel F X.env).names.lookup y=some .free)->∃c,cl.lookup y=some c)(R:∀j∈A,∃y,X.N[j]? = some y/\X.env.kindOf y=some .cell/\(relabel F X.env).names.lookup y=some .cell)(f:∀b∈T,FpOk X C H b)(Q:∀b∈T,b<s.heap.objs.size)(P:J.Ns s.heap.objs.size m)(G:∀b o,s.heap.get? b=some o->J.get? b=some o):
 Inv (blk X N s H F cl s.heap.objs.size T) [] (none::none::j5 σ A) H { s with heap:=J,toks:=tk }:=by
 have fresh:H s.heap.objs.size=none:=I.hok.fresh (Ak _);refine⟨⟨I.ok.mod,n,I.ok.glob,I.ok.blt,Ak _,fun y z c J h2=>I.ok.inj y z c (d y c J) (d z c h2),fun y E=>h y E,fun y c z _=>absurd (show false=true from z) (by decide),I.ok.hd,I.ok.frames,.inl rfl,
  fun b hb=>⟨AA (Q b hb),fun y c e=>(f b hb).2.2.2.2.1 y c (d y c e)⟩,I.bs,Ax I.ok.bsz I.sz,fun b o e hb=>?_,fun b hb z=>?_,I.stack,I.stkFree⟩,
  rfl,I.bare,Un.kept G,⟨m,P,fun i y v Y M e3=>?_⟩,fun y c e=>?_,fresh,fun y c e=>I.freeC y c (d y c e),fun p hp=>absurd (show p∈([]:List (Addr×Obj)) from hp) (by simp),I.hok.kept G,?_⟩
 . rcases (f b hb).2.2.2.1 with z|z
   . exact I.ok.noex b o e z
   . exact absurd (AK (As e) (Ax I.ok.bsz z)) (Bx _)
 . rcases Ah.mp (I.stkSub b z) with q|q
   . exact (f b hb).2.1 q
   . exact (f b hb).2.2.1 q
 . cases i with
   | zero =>
    have a:(some none:Option (Option V))=some (some v):=M;cases a
   | succ i =>
    cases i with
    | zero =>
     have a:(some none:Option (Option V))=some (some v):=M;cases a
    | succ i =>
     have a:(j5 σ A)[i]? = some (some v):=by simpa using M
     unfold j5 at a;rw[Am] at a;cases q:A[i]? with
     | none=>rw[q] at a;cases a
     | some j =>
      rw[q] at a;have g:(σ[j]?).getD none=some v:=by simpa using a
      have e4:σ[j]? = some (some v):=by
       cases q2:σ[j]? with
       | none=>rw[q2] at g;cases g
       | some w=>rw[q2] at g;simpa using g
      obtain⟨L,E,hc,U⟩:=R j (AE q);have ey:L=y:=by
       have t:N[i+1+1]? = some y:=Y;rw[W,EB,EB,Am,q] at t;have:=A0 t;simpa [E] using this
      subst ey;obtain⟨m0,Z,S⟩:=I.loc;obtain⟨u,r,l⟩:=S j L v E e4 (.inr (.inl hc));refine⟨u,r,.inr ⟨.inl U,?_⟩⟩;rcases l with⟨k,_⟩|⟨_,c,ec,ic⟩
      . rw[hc] at k;cases k
      . obtain⟨c',D⟩:=h L (.inl U);have:=d L c' D;rw[ec] at this;cases this;obtain⟨o,O,hd⟩:=ic;exact⟨c,D,o,G c o O,hd⟩
 . obtain⟨v,o,O,hd⟩:=I.cell y c (d y c e);exact⟨v,o,G c o O,hd⟩
 . show (none::none::j5 σ A).length=N.length;rw[W];simp[j5]
theorem a8u(N:List Str)(hc:X.calm=true)(hi:PI X (.Tuple [.Name x px,.Name x2 S] kt O) E wi)(aF:∀s H C ex,PTs (blk X N s H g cl C ex) am tc)(he:∀s H C ex,PE (blk X N s H g cl C ex) aq te)(t:g.kind=.function)(hN:N=x::x2::ix.map fun j=>(X.N[j]?).getD "")(hnd:N.Nodup)(F:g.names.lookup x=some .local)(ap:g.names.lookup x2=some .local)(aE:closureFor g X.env=pure cl)(M:∀y∈g.names,y.2≠.cell)(L:∀y∈g.names,y.2=.local->g.names.lookup y.1=some .local)(ah:∀y c,cl.lookup y=some c->X.env.cells.lookup y=some c)(ae:∀y,((relabel g X.env).names.lookup y=some .cell\/(relabel g X.env).names.lookup y=some .free)->∃c,cl.lookup y=some c)(au:∀j∈ix,∃y,X.N[j]? = some y/\X.env.kindOf y=some .cell/\(relabel g X.env).names.lookup y=some .cell)(hs:∀x,foldedSetIterable E X.env x=pure x:=by intro _;rfl):
 PE X (.ListComp aq [⟨.Tuple [.Name x px,.Name x2 S] kt O,E,am,0⟩] g pos) (a8j X.K ix wi tc te):=by
 intro k s σ H Q I h;rw[eval_ListComp];refine Gi (use:=none) rfl hs aE t L (thn (hi k s σ H _ I h) fun v s1 h1=>thn h1 fun aM f h2=>?_);obtain⟨it,l,tn,J,G,e,I2,T,aa,f2,q2⟩:=h2;subst e;have az:G f.heap.objs.size=none:=I2.hok.fresh (Ak _);obtain⟨W,⟨m0,w0⟩,ak⟩:=q2 f.heap.objs.size az;refine AZ ?_;have I3:Inv X k σ (upd G f.heap.objs.size (.lst [])) { f with heap:=f.heap.push { cls:=.type "list",dict:=none,data:=.seq ([]:List Value).toArray } }:=by
  exact I2.lnew (its:=[]) (ys:=[]) (t':=f.toks) .nil (AH _)
 have al:∀b∈l,b<f.heap.objs.size:=fun b hb=>by
  obtain⟨o,ho,_⟩:=T.obj _ _ aa b hb;exact As ho
 have f3:∀b∈l,FpOk X k (upd G f.heap.objs.size (.lst [])) b:=fun b hb=>⟨by rw[fq (AA (al b hb))];exact (f2 b hb).1,(f2 b hb).2⟩
 generalize hs3:({ f with heap:=f.heap.push { cls:=.type "list",dict:=none,data:=.seq ([]:List Value).toArray } }:Shared)=a at I3;have aj:f.heap.objs.size<=a.heap.objs.size:=by rw[<- hs3];show _<=(f.heap.push _).objs.size;rw[Bj];exact Bs _
 have aA:tn 0 a.heap:=T.keep _ _ _ aa fun b _ o e=>by rw[<- hs3];exact Ab _ e
 have ab:∀b∈l,b<a.heap.objs.size:=fun b hb=>AK (al b hb) aj;refine Ib M (by intro y hy;simp at hy) (fun h4 af ac=>?_) t;have old:∀b o,a.heap.get? b=some o->h4.get? b=some o:=fun b o e=>ac.extBut b o (AA (As e)) (Ab _ e);have I4:=aak (m:=_) (tk:=a.toks+([]:List (Str×Value)).length) (N:=N) I3 t hN ah ae au f3 ab af old;have ao:tn 0 h4:=T.keep _ _ _ aA fun b _ o e=>old b o e;have P:∀{H':Hp},(∀b∈l,H' b=none)->∀b∈l,FpOk (blk X N a (upd G f.heap.objs.size (.lst [])) g cl a.heap.objs.size l) [] H' b:=fun {H'} hn b hb =>
  ⟨hn b hb,AA (ab b hb),I4.ok.exfs b hb,.inl hb,fun y c e=>(I4.ok.exf b hb).2 y c e,fun p hp=>absurd (show p∈([]:List (Addr×Obj)) from hp) (by simp)⟩
 have loop:codeAny (model X.prog X.w) X.A (.compLoop (.ListComp aq [⟨.Tuple [.Name x px,.Name x2 S] kt O,E,am,0⟩] g pos) 0 (.ref it) (.ref f.heap.objs.size) (compEnvC g cl a.heap.objs.size X.env))
  (compPost (model X.prog X.w) X.A X.xe none (EP X k σ Q) (.ref f.heap.objs.size) a.heap.objs.size) { a with heap:=h4,toks:=a.toks+([]:List (Str×Value)).length }:=by
  refine xi (fun n s'=>∃i v0 v1 H',Inv (blk X N a (upd G f.heap.objs.size (.lst [])) g cl a.heap.objs.size l) [] (v0::v1::j5 σ ix) H' s'/\tn i s'.heap/\(∀b∈l,H' b=none)/\W i n H') ?_ m0
   ⟨0,none,none,_,I4,ao,fun b hb=>(f3 b hb).1,w0⟩
  rintro n s5 ⟨i,v0,v1,H5,I5,ag,ai,w5⟩;rcases ak i n H5 w5 with⟨stop,qn⟩|⟨go,step⟩
  . refine thn (T.done (blk X N a (upd G f.heap.objs.size (.lst [])) g cl a.heap.objs.size l) rfl rfl rfl hc i [] s5 _ H5 _ I5 (P ai) ag stop) fun r s6 ⟨hr,I6⟩=>?_;subst hr;obtain⟨mm,hm,_⟩:=I6.loc;refine⟨mm,hm,fun h7 aD=>?_⟩;have I7:Inv X k σ H5 { s6 with heap:=h7 }:=by
     have hC:H5 a.heap.objs.size=none:=I6.free;have aL:a.heap.get? a.heap.objs.size=none:=EY (Ak _);have up:∀b o,b≠a.heap.objs.size->s6.heap.get? b=some o->h7.get? b=some o:=fun b o hb e=>aD.extBut b o hb e;have U:∀b o,a.heap.get? b=some o->b≠a.heap.objs.size:=fun b o e=>AA (As e);have u:=I6.base;refine I3.call' (s':={ s6 with heap:=h7 }) (ch:=l) I6.os ⟨fun b o e n hb F=>?_,fun b o e n hb F=>?_,fun b o e n F=>u.free b o e n F,fun b o e F=>?_,u.tups,u.frzs,u.tbls⟩ (fun b o e=>?_) I6.bare fun b hb=>⟨(f3 b hb).2.2.2.1,(f3 b hb).2.1,(f3 b hb).2.2.2.2.1,(f3 b hb).2.2.2.2.2⟩
     . exact up b o (U b o e) (u.keep b o e n hb F)
     . obtain⟨sl,e1⟩:=u.slot b o e n hb F;exact⟨sl,up b _ (U b o e) e1⟩
     . obtain⟨o',e1⟩:=u.there b o e F;exact⟨o',up b _ (U b o e) e1⟩
     . refine (I6.hok b o e).stay (fun c v av q=>up c v ?_ q) (fun _ q=>q) fun _ _ q=>q;rintro rfl;rcases av with z|z
       . rw[<- z,hC] at e;cases e
       . rw[hC] at z;cases z
    exact⟨.ref f.heap.objs.size,H5,I7,rfl,qn⟩
  . refine thn (T.item (blk X N a (upd G f.heap.objs.size (.lst [])) g cl a.heap.objs.size l) rfl rfl rfl hc i [] s5 _ H5 _ I5 (P ai) ag go) fun r s6 ⟨u,hr,h6⟩=>?_;subst hr;refine thn h6 fun _ s7 ⟨y,H7,I7,r7,y7,Y,aI⟩=>?_;have aH:=I7.pinned (P aI) (T.obj _ _ Y);obtain⟨pp,ya,yb,rfl,ay,R⟩:=step y H7 y7;have aG:PG (blk X N a (upd G f.heap.objs.size (.lst [])) g cl a.heap.objs.size l) (.Tuple [.Name x px,.Name x2 S] kt O) (gTup X.K 2 (my (gq 0) (my (gq 1) gNil))) :=
     a1t hc (kj (wo (i:=0) hnd (by show N[0]? = some x;rw[hN];rfl) (.inl (CD F)) (.inr (CD F))) (kj (wo (i:=1) hnd (by show N[1]? = some x2;rw[hN];rfl) (.inl (CD ap)) (.inr (CD ap))) wg))
    refine thn (aG _ s7 _ H7 (.ref pp) _ (fun σ' H'=>σ'=some ya::some yb::j5 σ ix/\H'=H7) aH r7 ⟨pp,_,rfl,ay,rfl,_,_,rfl,_,_,rfl,rfl,rfl,rfl⟩) fun _ s8 ⟨σ8,H8,I8,eσ,eH⟩=>?_;subst eσ eH;refine thn (aF _ _ _ _ _ s8 _ H8 _ I8 R) fun ok s9 ⟨H9,I9,q9⟩=>?_;have D:∀{H':Hp} {s':Shared} {Z:Nat},Inv (blk X N a (upd G f.heap.objs.size (.lst [])) g cl a.heap.objs.size l) ([]++qk l s7.heap) (some ya::some yb::j5 σ ix) H' s'->Z<n->W (i+1) Z H'->
     ∃m,m<n/\∃i v0 v1 H',Inv (blk X N a (upd G f.heap.objs.size (.lst [])) g cl a.heap.objs.size l) [] (v0::v1::j5 σ ix) H' s'/\tn i s'.heap/\(∀b∈l,H' b=none)/\W i m H':=fun {H' s' Z} Ia hm wa=>by
     refine⟨Z,hm,i+1,some ya,some yb,H',Ia.unpinned,T.keep _ _ _ Y fun b hb o e=>(Ia.pin (b,o) (AF _ (AF _ (me hb e)))).1,fun b hb=>?_,wa⟩;obtain⟨o,e,d⟩:=T.obj _ _ Y b hb;exact (Ia.pin (b,o) (AF _ (AF _ (me hb e)))).2.1
    cases ok with
    | false =>
     rw[if_neg Ai] at q9 |-;obtain⟨Z,hm,wa⟩:=q9;exact D I9 hm wa
    | true =>
     rw[if_pos rfl] at q9 |-;refine thn (he _ _ _ _ _ s9 _ H9 _ I9 q9) fun aC ar ⟨z,an,aJ,ax,ys,hD,hl,Z,hm,wa⟩=>?_;exact thn (kg _ ar _ an (.ref f.heap.objs.size) [z] (.ref f.heap.objs.size) [aC] (fun _ H'=>H'=upd an f.heap.objs.size (.lst (ys++[z]))) aJ rfl (.cons ax .nil) ⟨_,ys,z,rfl,rfl,hD,hl,rfl⟩)
      fun _ aK ⟨_,aN,aw,_,aB⟩=>D aw hm (by rw[aB];exact wa)
 subst hs3;exact Hn loop (T.self _ 0 _ _ _ ao loop)
theorem a7r{K:Ac}(hK:X.K=K)(N:List Str)(k:List Nat)(hi:QI X (.Tuple [.Name x px,.Name h m] v q) c F)(g:∀s H C ex,QTs (blk X N s H a cl C ex) i E)(D:∀s H C ex,QE (blk X N s H a cl C ex) t A)(f:closureFor a X.env=pure cl:=by rfl)(o:ClIn X.env.cells cl:=by repeat' first|with_unfolding_all rfl|constructor)(w:N=x::h::k.map (fun j=>(X.N[j]?).getD ""):=by rfl)(hnd:N.Nodup:=by decide +kernel)(p:cl.map (·.1)=N.tail.tail:=by rfl)(n:((relabel a X.env).names.all fun y=>(match y.2 with|.cell=>false|.free=>false|_=>true) || decide (y.1∈N.tail.tail))=true:=by with_unfolding_all rfl)(l:IxIn X a k:=by repeat' first|with_unfolding_all rfl|constructor)(u:a.names.lookup x=some .local:=by decide +kernel)(r:a.names.lookup h=some .local:=by decide +kernel)(e:∀z∈a.names,z.2≠.cell:=by decide +kernel)(b:∀z∈a.names,z.2=.local->a.names.lookup z.1=some .local:=by decide +kernel)(hc:X.calm=true:=by rfl)(d:a.kind=.function:=by rfl)(hs:∀x,foldedSetIterable c X.env x=pure x:=by intro _;rfl):
 QE X (.ListComp t [⟨.Tuple [.Name x px,.Name h m] v q,c,i,0⟩] a pos) (a8j K k F E A):=by
 subst hK;exact⟨a8u N hc hi.run (fun s H C ex=>(g s H C ex).run) (fun s H C ex=>(D s H C ex).run) d w hnd u r f e b (a1g o.all) (a1h p n) l.all hs⟩
end L2
namespace Ka
open PySem PyProof.Rows
theorem a02:typeLookup (.type "list") "keys" = pure none:=by rw[Dc,Cg];kernel_rfl
theorem a5s:typeLookup (.type "list") "__getattr__" = pure none:=by rw[Dc,Cg];kernel_rfl
theorem sr:isSubtype (.type "AttributeError") (.type "AttributeError")=pure true:=by rw[E9];kernel_rfl
set_option maxHeartbeats 16000000 in
theorem a5n{os:OsState}(q:A.handled=none)(p:h.get? a=some { cls:=.type "list",dict:=none,data:=.seq xs n,slots:=v })(hq:∀h' e t',(∀b u,h.get? b=some u->h'.get? b=some u)->(∃c,h'.get? e=some c/\c.cls=.type "AttributeError")->h.objs.size<=h'.objs.size->E (.ref e) ⟨h',g,d,t',os⟩):
 wpAny (model prog w) A (Builtin.«object.__getattribute__» ⟨[.ref a,.str "keys" tk],[]⟩) Q E ⟨h,g,d,t,os⟩:=by
 have s:(⟨h,g,d,t,os⟩:Shared).TypeIs (.ref a) "list" := ⟨_,p,rfl⟩
 have y:=a02
 repeat (any_goals (first|assumption|wp_step))
 have hm:(Bf (toString "'" ++ toString ((Fw "list").elim "list" fun x=>x.tpName)++toString "' object has no attribute '")++Bf "keys" ++ Bf "'").length<=sizeLine:=by decide +kernel
 generalize (Bf (toString "'" ++ toString ((Fw "list").elim "list" fun x=>x.tpName)++toString "' object has no attribute '")++Bf "keys" ++ Bf "'")=i at hm |-;unfold raiseAttrError
 repeat (any_goals (first|assumption|wp_step))
 have r:isSubtype (.type "AttributeError") (.type "AttributeError")=pure true:=sr;dsimp only
 repeat (any_goals (first|assumption|wp_step))
 generalize hO:({ cls:=Value.type "AttributeError",data:=_ }:Obj)=c;generalize hT2:({ cls:=Value.type "tuple",data:=Data.seq #[Value.str i t] }:Obj)=k;have l:c.cls=.type "AttributeError" := by rw[<- hO]
 have f:∃vs,c.data=.fields vs:=⟨_,by rw[<- hO]⟩
 obtain⟨vs,m⟩:=f;have o:((h.push k).push c).get? (h.push k).objs.size=some c:=An _ (by rw[<- hO];rfl);refine Fn q (hq _ _ _ (fun b u hb=>?_) ⟨_,B7 _ o (DS (CV m _)),(EJ ..).trans l⟩ ?_)
 . have j:=As (Ab k hb);rw[Io _ _ _ _ (AA j)];exact Ab _ (Ab _ hb)
 . rw[Jj,size_push',size_push'];lia
set_option maxHeartbeats 16000000 in
theorem attr{os:OsState}(o:A.handled=none)(c:h.get? a=some { cls:=.type "list",dict:=none,data:=.seq xs n,slots:=v })(hq:∀h' t',(∀b u,h.get? b=some u->h'.get? b=some u)->h.objs.size<=h'.objs.size->Q none ⟨h',g,d,t',os⟩):wpAny (model prog w) A (getAttr? (.ref a) "keys") Q E ⟨h,g,d,t,os⟩:=by
 have r:(⟨h,g,d,t,os⟩:Shared).TypeIs (.ref a) "list" := ⟨_,c,rfl⟩
 have f:(⟨h,g,d,t+1,os⟩:Shared).TypeIs (.ref a) "list" := ⟨_,c,rfl⟩
 have f2:=F.slot_list_getattribute.lookup;have x:=F.slot_list_getattribute.bind (.ref a);have q:isSubtype (.type "AttributeError") (.type "AttributeError")=pure true:=sr;unfold getAttr? getAttrBy?
 repeat (any_goals (first|assumption|wp_step))
 refine DY F.slot_list_getattribute.plain F.entry_list_ga (F.slot_list_getattribute.check _ _ _ _ _ _ _ _ f (F.args_list_getattribute_2 _ _) (a5n ?_ c fun h' e t' k m hs=>?_))
 . exact o
 obtain⟨y,j,i⟩:=m;have p:(⟨h',g,d,t',os⟩:Shared).TypeIs (.ref e) "AttributeError" := ⟨_,j,i⟩
 have s:=a5s;have l:=hq h' t' k hs;show wpAny (model prog w) A (getattributeRaised (Value.ref a) (Value.str (Bf "keys") t) (Value.type "list") (.ref e) none false false) _ _ _
 repeat (any_goals (first|assumption|wp_step))
end Ka
namespace Ka
open PySem
theorem plain_loop:plainId "dict.update.loop" = true:=by decide +kernel
theorem entry_loop:entryFor table "dict.update.loop" = some Builtin.«dict.update.loop» := entryFor_of_fast (by kernel_rfl)
end Ka
namespace L2
open PySem PySem.Spec PyProof.Rows
def kk(kv:Str×V):Key×V:=(Sum.inr kv.1,kv.2)
section
def Hd(H:Hp)(p:Addr)(kvs:List (Str×V))(i:Nat):Hp:=upd H p (.dK ((kvs.take i).map kk))
variable{kvs:List (Str×V)} in
theorem a48:∀{kvs:List (Str×V)}{x:Str},¬ x∈kvs.map (·.1)->valV (kvs.map kk) (Sum.inr x)=none
 | [],_,_=>rfl
 | kv::kvs,x,h=>by
  rw[Ar,m7 (fun e=>h (by rw[Ar];exact Ah.mpr (.inl (DH e).symm)))];exact a48 fun z=>h (Al _ z)
theorem a71{kvs:List (Str×V)}(hn:(kvs.map (·.1)).Nodup)(hi:kvs[i]? = some kv):putK ((kvs.take i).map kk) (Sum.inr kv.1) kv.2=(kvs.take (i+1)).map kk:=by
 rw[Ca,hi,Au,a1l]
 . rfl
 . refine a48 fun z=>?_;obtain⟨c,rfl⟩:=Aw.mp hi;rw[FO] at z;obtain⟨j,a⟩:=Cn z;have b:=(Aw.mp a).1;rw[AQ,Ad] at b;rw[Dt (by lia)] at a;have e:(kvs.map (·.1))[i]? = some kvs[i].1:=by rw[Am,hi];rfl
   have:=(Jb (by rw[Ad];lia) hn).mp (a.trans e.symm)
   lia
theorem qr{K:Ac}(e:Same H H')(h:SqL K H l xs):SqL K H' l xs:=by
 rcases h with (h|⟨o,h⟩)|h
 . exact .inl (.inl (e _ _ h))
 . exact .inl (.inr ⟨o,e _ _ h⟩)
 . exact .inr h
variable{a:Addr} in
theorem abk{α β:Type}{F:α->β->Prop}:∀{l₁:List α}{l₂:List β}{i:Nat}{a:α}{b:β},Paired F l₁ l₂->l₁[i]? = some a->l₂[i]? = some b->F a b
 | _,_,0,_,_,.cons h r,e1,e2=>by cases e1;cases e2;exact h
 | _,_,i+1,_,_,.cons h r,e1,e2=>abk (i:=i) r (by simpa using e1) (by simpa using e2)
theorem a74(hh:A.handled=none)(hp:H p=none)(hl:SqL X.K H a (ts.map V.ref))(D:Paired (fun t (kv:Str×V)=>SqT X.K H t [.str kv.1,kv.2]) ts kvs)(hn:(kvs.map (·.1)).Nodup)(hz:ts.length<=1000)(C:it≠p):
 ∀(k i:Nat) (s:Shared),kvs.length - i=k->i<=kvs.length->Inv X d σ (Hd H p kvs i) s->s.heap.IsListIter it a i->(∀b∈[it],FpOk X d (Hd H p kvs i) b)->
   (∀s',Inv X d σ (Hd H p kvs kvs.length) s'->R (.ok (.ret .none)) s')->codeAny (model X.prog X.w) A (.builtin "dict.update.loop" ⟨[.ref p,.ref it,.int i 0,.none],[]⟩) R s:=by
 have f:∀i,Same H (Hd H p kvs i):=fun i=>gc hp _;have Z:=AB D;intro k;induction k with
 | zero =>
  intro i s hk hi I hit E q;have e:i=kvs.length:=by lia
  obtain⟨its,F,pl,_⟩:=I.list (qr (f i) hl);have G:=F.length;rw[Ad] at G;refine BI Ka.entry_loop ?_;rw[Bw Ka.plain_loop _];show wpAny _ A.in1 (pyNext (.ref it) >>= _) _ _ s;refine Aa (ET hh hit pl.isList (by rw[CB,Bu (by lia)]) fun h' Q=>?_);have y:Inv X d σ (Hd H p kvs i) { s with heap:=h' }:=I.turnedL (ch:=[it]) (t':=s.toks) (fun b o hb e=>Q b o (by simpa using hb) e) E;refine Aa (Ae (Ae (q _ ?_)));rw[<- e];exact y
 | succ k ih =>
  intro i s hk hi I hit E q;have m:i<kvs.length:=by lia
  have g:kvs[i]? = some kvs[i]:=Ag m;have ht:ts[i]? = some (ts[i]'(by lia)):=Ag _;generalize ts[i]'(by lia)=t at ht;generalize hg:kvs[i]=kv at g;have U:=abk D ht g;obtain⟨its,F,pl,_⟩:=I.list (qr (f i) hl);have hx:its[i]? = some (.ref t):=by
   obtain⟨u,hu,ru⟩:=F.get (x:=.ref t) (i:=i) (by rw[Am,ht];rfl);cases ru;exact hu
  refine BI Ka.entry_loop ?_;rw[Bw Ka.plain_loop _];show wpAny _ A.in1 (pyNext (.ref it) >>= _) _ _ s;refine Aa (EK hit pl.isList (by rw[CB];exact hx) fun h' l W=>?_);have y:Inv X d σ (Hd H p kvs i) { s with heap:=h' }:=I.turnedL (ch:=[it]) (t':=s.toks) (fun b o hb e=>(W.2 b (by simpa using hb)).trans e) E;obtain⟨L,rj,tp,_⟩:=y.tuple ((f i).seqT U);obtain⟨J,N,rfl,r1,r2⟩:∃J N,L=[J,N]/\RelV (.str kv.1) J/\RelV kv.2 N:=by
   cases rj with
   | cons a1 b1=>cases b1 with
    | cons a2 b2=>cases b2;exact⟨_,_,rfl,a1,a2⟩
  obtain⟨⟨c3,d3,ab,aa⟩,j,n,n3,h⟩:=id tp;dsimp only at n h;subst n h;dsimp only;refine Aa (AX ?_);refine Aa (Dr ?_);unfold Hr;refine Aa (CT (T := "tuple") ⟨_,j,rfl⟩ ?_);rw[if_pos (by decide)];refine Aa (Bl j rfl (Ae ?_));refine AX ?_;obtain⟨z,hd,vs,rel,dd⟩:=uh y.hok (show (Hd H p kvs i) p=some (.dK ((kvs.take i).map kk)) from ft);have O:vs.length<=sizeLine:=by rw[<- rel.length];exact z
  refine Ip (s:={ s with heap:=h' }) (hsz:=O) (rd (k:=Sum.inr kv.1) r1) dd fun Y r v=>?_;have M:Mut ((Hd H p kvs i) p):=by rw[show (Hd H p kvs i) p=some (.dK ((kvs.take i).map kk)) from ft];exact True.intro
  have he:∃q,Y.get? p=some q:=let ⟨q,_,_,hq,_⟩:=r;⟨q,hq⟩;have P:(putK ((kvs.take i).map kk) (Sum.inr kv.1) kv.2).length<=sizeLine:=by
   have:=mu ((kvs.take i).map kk) (Sum.inr kv.1) kv.2;rw[Ad,AQ] at this;exact BK (l0 (by lia))
  have I2:Inv X d σ (Hd H p kvs (i+1)) { s with heap:=Y,toks:=s.toks+1 }:=by
   have:=qg (t':=s.toks+1) (ob:=.dK (putK ((kvs.take i).map kk) (Sum.inr kv.1) kv.2)) y M v he (tj P hd (rel.put (Sum.inr kv.1) r2) r);rw[a71 hn g] at this;have e:upd (Hd H p kvs i) p (.dK ((kvs.take (i+1)).map kk))=Hd H p kvs (i+1):=by
    funext b;unfold Hd
    by_cases c:b=p
    . rw[c,ft,ft]
    . rw[fq c,fq c,fq c]
   rw[e] at this;exact this
  refine Ae ⟨BS Ka.plain_loop _,ih (i+1) _ (by lia) m I2 ?_ (fun b hb=>?_) q⟩
  . obtain⟨o,g1,g2⟩:=l;exact⟨o,(v.2 it C).trans g1,g2⟩
  . have S:b=it:=by simpa using hb
    subst S;have f0:=E b hb;refine⟨?_,f0.2⟩;have:=f0.1;unfold Hd at this |-;rw[fq C] at this |-;exact this
def af7(K:Ac):List V->Hp->VK->Prop:=fun xs H Q=>∃(a:Addr) (ts:List Addr) (kvs:List (Str×V)),xs=[V.ref a]/\SqL K H a (ts.map V.ref)/\Paired (fun t (kv:Str×V)=>SqT K H t [.str kv.1,kv.2]) ts kvs/\(kvs.map (·.1)).Nodup/\ts.length<=1000/\∀p,H p=none->Q (.ref p) (upd H p (.dK (kvs.map kk)))
theorem yq{K:Ac}(hK:X.K=K)(hc:X.calm=true):jz X (.type "dict") (af7 K):=by
 subst hK;intro d s σ H xs us Q I r h;obtain⟨a,ts,kvs,rfl,hl,i,hn,hz,q⟩:=h;obtain⟨u,rfl,D⟩:=rg r;cases D;have w:=AB i;refine callType_codes (Q₁:=fun obj t=>obj=.ref s.heap.objs.size/\t={ s with heap:=s.heap.push { cls:=.type "dict",data:=.dict #[] } }) Jk (Ig _) Jc (Jl _ ⟨rfl,rfl⟩) ?_;rintro obj t ⟨rfl,rfl⟩;have fr:H s.heap.objs.size=none:=I.hok.fresh (Ak _);have j:Inv X d σ (upd H s.heap.objs.size (.dK [])) { s with heap:=s.heap.push { cls:=.type "dict",data:=.dict #[] } }:=I.laid (t':=s.toks) (fun b o e=>Ab _ e) (Ak _) (yg _ I.big);have c:(s.heap.push { cls:=.type "dict",data:=.dict #[] }).get? s.heap.objs.size=some { cls:=.type "dict",data:=.dict #[] }:=An _ rfl;refine⟨⟨_,c,rfl⟩,IP _ _,?_⟩;unfold Builtin.«dict.__init__»;refine Aa ?_;unfold Gp;refine Aa (EV ⟨_,c,rfl⟩ ?_);show wpAny _ _ (pure (s.heap.objs.size,[Value.ref a])) _ _ _;refine Ae ?_;show wpAny _ _ (Dy "dict.__init__" s.heap.objs.size (.ref a) [] .none) _ _ _;obtain⟨its,L,⟨⟨M,od,E,J⟩,n,l,v,x,y⟩,_⟩:=j.list (qr (gc fr _) hl);dsimp only at v x y;subst v x y;unfold Dy;refine Aa (CT (T := "list") ⟨_,l,rfl⟩ ?_);rw[if_pos (by decide)];refine Aa (Ka.attr (A:=X.A.in1.in1) (show X.A.in1.in1.handled=none from j.ok.hd hc) l fun f t2 k2 N=>?_);rw[if_pos (show (none:Option Value).isNone=true from rfl)];refine Aa (Cz ?_);have k:=k2 _ _ l;have p:Inv X d σ (upd H s.heap.objs.size (.dK [])) { s with heap:=f,toks:=t2 }:=j.kept (t':=t2) fun b o e=>k2 b o e;refine Aa (Cp (s:={ s with heap:=f,toks:=t2 }) (items:=its.toArray) ⟨_,k,rfl,_,rfl⟩ ?_);have g:s.heap.objs.size<f.objs.size:=As (k2 _ _ c);have C:Inv X d σ (upd H s.heap.objs.size (.dK [])) { s with heap:=f.push { cls:=.type "list_iterator",data:=.fields #[.ref a,.int 0 0] },toks:=t2 }:=p.kept (t':=t2) fun b o e=>Ab _ e;have hit:(f.push { cls:=.type "list_iterator",data:=.fields #[.ref a,.int 0 0] }).IsListIter f.objs.size a 0:=⟨_,An _ rfl,rfl,rfl⟩
 refine Ae ⟨BS Ka.plain_loop _,a74 (kvs:=kvs) (show X.A.in1.handled=none from j.ok.hd hc) fr hl i hn hz (BX g) kvs.length 0 _ rfl (AH _) C hit (fun b hb=>?_) fun s' G=>?_⟩
 . have m:b=f.objs.size:=by simpa using hb
   subst m;exact p.fpOk (Ak _) (by show (upd H s.heap.objs.size (.dK [])) f.objs.size=none;rw[fq (BX g)];exact p.hok.fresh (Ak _) |> fun z=>by rw[fq (BX g)] at z;exact z)
 . refine⟨rfl,.ref s.heap.objs.size,_,G,rfl,?_⟩;have:=q s.heap.objs.size fr;unfold Hd;rw[BP];exact this
end
end L2
namespace TS
open PySem PySem.W PyProof.Rows
section
variable{α:Type} in
variable{α β:Type}{N:Nat}{lt:Nat->Nat->Bool} in
variable{α:Type}{N:Nat}{lt:Nat->Nat->Bool} in
variable{α:Type}{N:Nat}{lt:Nat->Nat->Bool} in
structure Ord(N:Nat)(lt:Nat->Nat->Bool):Prop where
 tr:∀i j k,lt i j=true->lt j k=true->lt i k=true
 tot:∀i j,i<N->j<N->i≠j->lt i j=false->lt j i=true
abbrev gt(p:Array Nat)(i:Nat):Nat:=p.getD i 0
variable{N:Nat}{lt:Nat->Nat->Bool}{p:Array Nat} in
variable{N:Nat}{lt:Nat->Nat->Bool}{p:Array Nat} in
variable{N:Nat}{lt:Nat->Nat->Bool}{p:Array Nat} in
variable{N:Nat}{lt:Nat->Nat->Bool}{p:Array Nat} in
end
section
open L2 HT
variable{prog:Program}{w:World}{A:Around}{s:Shared} in
end
end TS
namespace L2
open PySem PySem.Spec PyProof.Rows TS
theorem yi(ws:List Str)(p:Str->Bool)(l:JSeq J t (ws.map V.str))(h0:t d)(hz:ws.length<=1000)(hc:∀n∈ws,∀a,Same d a->∀b:Bool->Hp->Prop,(∀c,Same a c->b (p n) c)->q (some (.str n)::j5 σ h) a b)(m:∀(n:Str) a (b:VK),b (.str n) a->k (some (.str n)::j5 σ h) a b)(s:∀D H',d D=none->Same d H'->H' D=some (.lst ((ws.filter p).map V.str))->Q (.ref D) H'):qy J d σ h q k Q:=by
 have pv:∀n:Str,(fun v:V=>match v with|.str i=>p i|_=>false) (V.str n)=p n:=fun n=>rfl;refine ye (ws.map V.str) (fun v=>match v with|.str i=>p i|_=>false) id l h0 (by rw[Ad];exact Ax hz (by decide)) ?_ ?_ ?_
 . intro x f a j b g;obtain⟨n,hn,rfl⟩:=Az.mp f;exact hc n hn a j b fun c r=>g c r
 . intro x f _ a j b g;obtain⟨n,hn,rfl⟩:=Az.mp f;exact m n a b (g a (Same.refl _))
 . intro D H' o e hd;refine s D H' o e ?_;rw[hd,Do,Jx];rfl
theorem g8(h:∀c:Ends,(∀σ H,b D σ H->c.nx σ H)->(∀v H,D.rt v H->c.rt v H)->(∀σ H,D.ct σ H->c.ct σ H)->a c σ H):tSeq a b D σ H:=h { D with nx:=b D } (fun _ _ z=>z) (fun _ _ z=>z) (fun _ _ z=>z)
open PySem.SeqAt
open AutoSeq1 (wpAny_loadPart')
open MeetsSeq MeetsSeq2 MeetsSeq3
section
theorem a0s(hc:X.calm=true):jz X (.builtin "max") (fun vs H Q=>∃(a:Addr) (ns:List Int),vs=[.ref a]/\SqL X.K H a (ns.map V.int)/\ns≠[]/\∀M∈ns,(∀n∈ns,n<=M)->Q (.int M) H):=by
 intro y s σ H vs us Q I r h;obtain⟨a,ns,rfl,hq,k,q⟩:=h;obtain⟨u,rfl,D⟩:=r.one;cases D;obtain⟨its,w,p,_⟩:=I.list hq;have hl:its.length=ns.length:=by have:=w.length;rw[Ad] at this;lia
 have hn:0<ns.length:=CL.mpr k;have d:∀(i:Nat) (v:Value),its.toArray[i]? = some v->∃t,v=.int (ns.getD i 0) t:=fun i v g=>by
  have f:its[i]? = some v:=by simpa using g
  have hi:i<ns.length:=by rw[<- hl];exact (Aw.mp f).1
  obtain⟨F,x,l⟩:=w.get (show (ns.map V.int)[i]? = some (.int ns[i]) by rw[Am,Ag hi];rfl);rw[f] at x;cases x;obtain⟨t,rfl⟩:=l;exact⟨t,by rw[BF,Ag hi];rfl⟩
 have c:a<s.heap.objs.size:=by obtain⟨o,C,_⟩:=p.isList;exact As C
 refine call_max_walk (Cp p.isList ⟨s.heap.objs.size,_,_,_,_,_,fun i j=>decide (ns.getD i 0>ns.getD j 0),rfl,Ic (show X.A.in1.handled=none from I.ok.hd hc) s.heap.objs.size a (AA c) its.toArray,⟨?_,?_⟩,fun b hb=>?_,by rw[Aq];lia,JH (fun i=>ns.getD i 0) d,fun v h' tk g z=>?_⟩)
 . exact⟨_,An _ rfl,rfl,rfl⟩
 . exact p.isList.push _
 . rw[Bj];simp only[Ah,Ay,or_false] at hb;rcases hb with rfl|rfl
   . exact Ci _
   . exact Cr c
 . obtain⟨t,rfl⟩:=d _ _ g;have hb:=argBest_gt (fun i=>ns.getD i 0) (its.toArray.size - 1);rw[Aq] at hb g;have hi:argBest (fun i j=>decide (ns.getD i 0>ns.getD j 0)) (its.length - 1)<ns.length:=by have:=hb.1;lia
   refine⟨.int _,H,I.kept (t':=tk) fun b o e=>z b o (by simp only[Ah,Ay,or_false];exact AA (As e)) (Ab _ e),⟨t,rfl⟩,q _ ?_ fun n m=>?_⟩
   . rw[Aq,BF,Ag hi];exact C0 hi
   . obtain⟨j,E,rfl⟩:=Ef m;have:=hb.2 j (by lia);rw[BF,Ag E] at this;rw[Aq];exact this
def afe(_ j:Int):Prop:=0<j/\j<=10 ^ 60
theorem aad:OpR X (binaryOp .FloorDiv) (rI afe fun i j=>.int (i / j)):=opI fun i j _ _ _ _ _ hc q=>by
 have c:(0:Int)<j:=hc.1;have b:j<=10 ^ 60:=hc.2;refine floordiv_int (by lia) (by rw[FG i (by lia)];exact q) (.inl (PyProof.noPylong_of_log2 ?_));have a:j.natAbs<2 ^ 200:=by
  have:(10:Int) ^ 60<2 ^ 200:=by decide +kernel
  lia
 have d:j.natAbs.log2<200:=(Nat.log2_lt (by lia)).mpr a
 lia
set_option relaxedAutoImplicit true
theorem aaq(b:QE X o td)(a:QE X e ty)(m:M1 X o "pop" apos e cpos:=by exact⟨rfl,rfl,rfl,rfl⟩):QE X (.Call (.Attribute o "pop" apos) [e] [] cpos) (a6x td ty):=⟨aav b.run a.run m⟩
end
theorem aau(I:Inv X f σ H s)(e:H a=some (.dK kvs))(o:H b=some (.dK c))(l:a≠b)(hl:kvs.length+c.length<=sizeLine)(h:∀s',Inv X f σ (upd H a (.dK (nq kvs c))) s'->Q .none s'):wpAny (model X.prog X.w) A (call (.builtin "dict.update") [.ref a,.ref b]) Q E s:=by
 obtain⟨z,hd,vs,rel,dd⟩:=uh I.hok e;obtain⟨p,m,j,d,i⟩:=uh I.hok o;refine Fg Gq dd.typeIs PySem.F.entry_dict_update (PySem.F.args_dict_update_2 _ _) (meets_dict_update (jh X.prog X.w) a b l m) ⟨vs,j,dd,i,by rw[<- rel.length,<- d.length];exact hl,fun h' g _ hs=>?_⟩;refine h _ ?_;have n:∃q,h'.get? a=some q:=let ⟨q,_,_,hq,_⟩:=g;⟨q,hq⟩;have k:(nq kvs c).length<=sizeLine:=by have:=uq c kvs;lia
 exact qg I (by rw[e];exact True.intro) hs n (tj k hd (d.merge rel) g)
def abh(td ty:TE):TE:=fun σ H Q=>td σ H fun x H1=>∃a,x=.ref a/\IsD H1 a/\ty σ H1 fun y H2=>∃b kvs more,y=.ref b/\H2 a=some (.dK kvs)/\H2 b=some (.dK more)/\a≠b/\kvs.length+more.length<=sizeLine/\Q .non (upd H2 a (.dK (nq kvs more)))
theorem ad7(v:PE X o C)(D:PE X e ty)(m:M1 X o "update" f e g):PE X (.Call (.Attribute o "update" f) [e] [] g) (abh C ty):=by
 intro c s σ H Q I h;refine FW m.base m.few m.line Dx Gq PySem.F.type_dict_update (thn (v c s σ H _ I h) fun u l ⟨x,G,j,q,a,ex,d,J⟩=>?_);subst ex;obtain rfl:u=Value.ref a:=q;obtain⟨t1,t2,_⟩:=a2o j d;refine⟨t1,t2,?_⟩;rw[m.trees];refine Cv rfl (Dm (CQ (thn (D c l σ G _ j J) fun p M ⟨y,N,w,t,b,kvs,k,E,z,r,i,hl,A⟩=>DM ?_)));subst E;obtain rfl:p=Value.ref b:=t;exact aau w z r i hl fun L n=>⟨.non,_,n,rfl,A⟩
theorem a4l(c:QE X o d)(f:QE X e ty)(m:M1 X o "update" a e b:=by exact⟨rfl,rfl,rfl,rfl⟩):QE X (.Call (.Attribute o "update" a) [e] [] b) (abh d ty):=⟨ad7 c.run f.run m⟩
end L2
namespace Mir
open PySem L2
def letters:Str := "abcdefghijklmnopqrstuvwxyz"
def figures:Str := "0123456789"
def noNames:List Str:=["nil","any","is","not","cell","stretch","tree","nothing","then","with"]
def ki(c:Nat):Bool:=decide (c∈letters.cps.toList) || decide (c∈figures.cps.toList)
def ql:List Nat->Bool
 | []=>false
 | c::_=>decide (c∈letters.cps.toList)
def i5(x:Str):Bool:=if x = "" \/ 8<x.length\/x∈noNames then false else ql x.cps.toList && x.cps.toList.all ki
theorem a44(a b:Str):eqV (.str a) (.str b)=decide (a=b):=by
 show (a == b)=decide (a=b);by_cases h:a=b
 . subst h;simp
 . rw[decide_eq_false h];exact beq_eq_false_iff_ne.mpr h
theorem o7(x:Str)(l:List Str):inV (.str x) (l.map V.str)=decide (x∈l):=by
 unfold inV;rw[Ct,DX,decide_eq_true_eq];constructor
 . rintro⟨y,a,e⟩;obtain⟨z,hz,rfl⟩:=Az.mp a;rw[a44,decide_eq_true_eq] at e;exact e ▸ hz
 . intro h;exact⟨.str x,Az.mpr ⟨x,h,rfl⟩,by rw[a44];simp⟩
theorem pq(l:List Str):(l.map V.str).all qb=true:=by
 rw[Dv];intro v a;obtain⟨z,_,rfl⟩:=Az.mp a;rfl
end Mir
namespace K56
open PySem PySem.Spec L2 Mir
def top(i:Nat):Stmt:=PySem.Challenge.pw_apart_k56_whole_cells_beside.main.body.getD i (.Pass ⟨0,0,0,0⟩)
def forms:List (Str×List Str):=[("set",["name","value"]),("read",["name","name","field"]),("write",["name","field","value"]),("new",["name","value","value"]),("free",["name"])]
structure Con(K:Ac)(mg:Str->Option Value)(w:World):Prop where
 len:mg "len" = none
 all:mg "all" = none
 any:mg "any" = none
 isi:mg "isinstance" = none
 list:mg "list" = none
 int:mg "int" = none
 bool:mg "bool" = none
 str:mg "str" = none
 dict:mg "dict" = none
 sorted:mg "sorted" = none
 set:mg "set" = none
 sum:mg "sum" = none
 range:mg "range" = none
 tuple:mg "tuple" = none
 max:mg "max" = none
 zip:mg "zip" = none
 min:mg "min" = none
 enumerate:mg "enumerate" = none
 letters:Glob mg "LETTERS" (.str Mir.letters)
 figures:Glob mg "FIGURES" (.str Mir.figures)
 noNames:∃a,Glob mg "NO_NAMES" (.ref a)/\∀H,SqT K H a (Mir.noNames.map V.str)
 mostSigns:Glob mg "MOST_SIGNS" (.int 8)
 forms:∃(a:Addr) (ts:List (Str×Addr)),Glob mg "PLAIN_FORMS" (.ref a)/\a0x K w a (ts.map fun x=>(x.1,V.ref x.2))/\ts.map (·.1)=forms.map (·.1)/\∀w t r,(w,t)∈ts->(w,r)∈forms->∀H,SqT K H t (r.map V.str)
 fields:∃a,Glob mg "FIELDS" (.ref a)/\(∀H,SqT K H a (([("first" : Str),"second"]:List Str).map V.str))/\∃o,K.lookup a=some o/\o.cls=.type "tuple" /\ o.dict=none
 places:∃a,Glob mg "CELL_PLACES" (.ref a)/\a0x K w a [("read",.int 2),("write",.int 1),("free",.int 1)]
theorem iteB{b:Bool}{A B:Prop}(c:b=true->A)(a:b=false->B):if b=true then A else B:=by
 cases b with
 | true=>rw[if_pos rfl];exact c rfl
 | false=>rw[if_neg Ai];exact a rfl
def Short(x:Str):Prop:=x.length<=1000
theorem Short.line(h:Short x):x.length<=sizeLine:=BK (l0 h)
def spB1(f:Str->Bool):Sp:=fun vs H Q _=>∃x,vs=[.str x]/\Short x/\∀H',Same H H'->Q (.bl (f x)) H'
theorem vz{r:List Str}{k:Nat}:cutV (r.map V.str) (some (k:Int)) none=(r.drop k).map V.str:=by
 unfold cutV;rw[HT.sIx_nat,HT.sIx_none,Ad];rw[List.map_drop.symm];by_cases h:k<=r.length
 . rw[Df h,Bg (by simp)]
 . rw[Gr (by lia),Nat.sub_self,DQ,Hs (by lia)];rfl
def rh(rs:List (List Str)):Prop:=rs.length<=200/\∀r∈rs,r.length<=5/\∀x∈r,Short x
theorem Paired.nth:∀{l₁:List α}{l₂:List β}{i:Nat}{a:α},Paired F l₁ l₂->l₁[i]? = some a->∃b,l₂[i]? = some b/\F a b
 | _,_,_,_,.nil,e=>by simp at e
 | _,_,0,_,.cons h _,e=>by simp at e;subst e;exact⟨_,rfl,h⟩
 | _,_,i+1,_,.cons _ t,e=>by
  obtain⟨b,d,c⟩:=Paired.nth (i:=i) t (by simpa using e);exact⟨b,by simpa using d,c⟩
structure Cal(K:Ac)(mg:Str->Option Value)(x:Str)(f:Addr)(fd:FuncData)(ps:List Str):Prop where
 name:mg x=some (.ref f)
 keep:CA K (.ref f)=true
 bind:Binds K fd ps []
theorem Paired.at2{F:α->β->Prop}{l₁:List α}{l₂:List β}{i:Nat}{a:α}{b:β}(h:Paired F l₁ l₂)(e:l₁[i]? = some a)(d:l₂[i]? = some b):F a b:=by
 obtain⟨g,c,f⟩:=Paired.nth h e;rw[d] at c;cases c;exact f
def li(r:List Str):List Str:=(r.drop 1).filter fun x => !decide (x∈Mir.noNames)
def words(rs:List (List Str)):List Str:=(rs.map li).flatten
theorem a6q(a b:List (List Str)):words (a++b)=words a++words b:=by unfold words;rw[Au,List.flatten_append]
theorem a4u(a:List (List Str))(r:List Str):words (a++[r])=words a++li r:=by rw[a6q];unfold words;simp
theorem ro:∀{rs:List (List Str)}{m:Nat},(∀r∈rs,r.length<=m)->(words rs).length<=rs.length*m
 | [],m,_=>by simp[words]
 | r::rs,m,h=>by
  have c:=ro (rs:=rs) (m:=m) (fun x a=>h x (Al _ a));have b:(li r).length<=m:=by
   unfold li;have:=BM (fun x => !decide (x∈Mir.noNames)) (r.drop 1);have:=h r (Af ..);have e:=Bc (i:=1) (l:=r)
   lia
  have e:words (r::rs)=li r++words rs:=by simp[words]
  rw[e,Aj,AC,Nat.succ_mul]
  lia
theorem Paired.app:∀{l₁:List α}{l₂:List β}{a:List α}{b:List β},Paired F l₁ l₂->Paired F a b->Paired F (l₁++a) (l₂++b)
 | _,_,_,_,.nil,h=>h
 | _,_,_,_,.cons h t,h2=>.cons h (Paired.app t h2)
def a03(K:Ac):Sp:=fun vs H Q _=>∃a fs ps,vs=[.ref a]/\adn K H a [fs,ps]/\rh fs/\rh ps/\(∀r∈fs++ps,r≠[])/\(∀ss:List Str,ss.Nodup->(∀y∈ss,y∈words (fs++ps))->ss.length<64)/\
 ∀(p:Addr) (zs:List Str) (H':Hp),H p=none->Same H H'->H' p=some (.lst (zs.map V.str))->zs.Nodup->(∀y,y∈zs↔y∈words (fs++ps))->Ea zs=true->Q (.ref p) H'
abbrev a01:Stmt:=top 6
abbrev xl:Stmt:=top 7
theorem a98:FnScope ["text"] ["text"] (iu a01):=⟨rfl,rfl,rfl,by decide +kernel,rfl,by decide +kernel,by decide +kernel⟩
theorem a5t(C:Con K mg w)(F:Fun K "is_name" "is_name" a01 f fd):FnOk P w K mg base CX0 1 f fd ["text"] (spB1 i5):=by
 refine F.ok a98 (fun vs H Q E h=>?_) (fun R A outer s H vs Q E U h=>?_)
 . obtain⟨x,rfl,_⟩:=h;rfl
 obtain⟨x,rfl,n,q⟩:=h;obtain⟨S,M,N⟩:=C.noNames;refine⟨_,ul (ab0 (PW.pt (a4y (tf ib (pv 0) a2q (gn _)) (a4y (tf wp (uf ur rfl C.len AV (jx (pv 0) oz)) (pe_g C.mostSigns) (gn _))
  (a5v (tf rf (pv 0) (pe_g M) (by with_unfolding_all rfl)))))) (sv (yo abj)) a3b)
  (sv (yo (aem (we ue (a12 nw (pv 0) sj (fun _ _=>rfl)) (pe_g C.letters) (by with_unfolding_all rfl))
   (a7c (uf (a9i rfl) rfl C.all PyProof.Rows.boot_all (jx (xt (ae8 (pv 0)) (fun _ _ _ _=>a4e)
    (fun _ _ _ _=>af9 (we ue (pv 0) (pe_g C.letters) (by with_unfolding_all rfl)) (a7c (we ue (pv 0) (pe_g C.figures) (by with_unfolding_all rfl))))) oz)))))),?_⟩
 have o:(x = "" \/ 8<x.length\/x∈Mir.noNames)->Q (.bl false) H:=fun h=>by
  have e:i5 x=false:=by unfold i5;rw[if_pos h]
  rw[<- e];exact q H (Same.refl H)
 refine⟨_,rfl,rfl,_,rfl,iteB (fun c=>o (.inl (by simpa using c))) fun c=>?_⟩;refine⟨_,rfl,x,rfl,n.line,_,_,rfl,rfl,_,rfl,iteB (fun u=>o (.inr (.inl (by have:=of_decide_eq_true u;lia)))) fun u=>?_⟩;refine⟨_,rfl,S,_,rfl,.inr (N _),rfl,pq _,_,rfl,iteB (fun t=>o (.inr (.inr (by
  have b:inV (.str x) (Mir.noNames.map V.str)=true:=t;rw[o7] at b;exact of_decide_eq_true b)))) fun t=>?_⟩
 have k:¬ x = "" := by simpa using c
 have y:¬ 8<x.length:=by have:=of_decide_eq_false u;lia
 have b:¬ x∈Mir.noNames:=by
  have b:inV (.str x) (Mir.noNames.map V.str)=false:=t;rw[o7] at b;exact of_decide_eq_false b
 have e:i5 x=(ql x.cps.toList && x.cps.toList.all ki):=by unfold i5;rw[if_neg (fun h=>h.elim k (fun h=>h.elim y b))]
 rw[e] at q;cases hl:x.cps.toList with
 | nil =>
  exfalso;apply k;obtain⟨a⟩:=x;have:a = #[]:=by simpa using hl
  rw[this];rfl
 | cons c0 r =>
  refine⟨_,rfl,x,0,c0,rfl,rfl,n.line,(jg (j:=0) (by rw[hl];rfl)),c0,_,rfl,rfl,_,rfl,?_⟩;have I:ql x.cps.toList=decide (c0∈Mir.letters.cps.toList):=by rw[hl];rfl
  refine iteB (fun ch=>?_) (fun ch=>?_)
  . rw[I,ch,JI] at q;refine⟨_,rfl,x,rfl,?_⟩;refine ye (u9 x) (fun _=>true) (fun v=>match v with|.str z=>.bl (ki (z.cps.toList.headD 0))|_=>.bl false) a9d trivial ?_ ?_ ?_ ?_
    . unfold u9;rw[Ad,Bi];exact n.line
    . intro v G l L m p;exact p l (Same.refl _)
    . intro v G _ l L m p;obtain⟨d,O,rfl⟩:=Az.mp G;have g:=p l (Same.refl _);refine⟨_,rfl,d,_,rfl,rfl,_,rfl,iteB (fun z=>?_) (fun z=>?_)⟩
      . have:ki d=true:=by unfold ki;rw[show decide (d∈Mir.letters.cps.toList)=true from z];rfl
        have i:m (.bl (ki d)) l:=g;rw[this] at i;exact i
      . refine⟨_,rfl,d,_,rfl,rfl,?_⟩;have:ki d=decide (d∈Mir.figures.cps.toList):=by unfold ki;rw[show decide (d∈Mir.letters.cps.toList)=false from z];rfl
        have i:m (.bl (ki d)) l:=g;rw[this] at i;exact i
    . intro D H' W J hd;refine⟨D,x.cps.toList.map ki,rfl,SqL.of ?_,?_⟩
      . rw[hd]
        congr 1
        congr 1
        unfold u9;rw[Iq.mpr (fun _ _=>rfl),Bd,Bd];rfl
      . have T:(x.cps.toList.map ki).all id=x.cps.toList.all ki:=by rw[List.all_map];rfl
        rw[T];exact q H' J
  . rw[I,ch] at q;exact q H (Same.refl _)
theorem scNamesOf:FnScope ["telling","names","row"] ["telling"] (iu xl):=⟨rfl,rfl,rfl,by decide +kernel,rfl,by decide +kernel,by decide +kernel⟩
theorem a5q(C:Con K mg w)(F:Fun K "names_of" "names_of" xl f fd):FnOk P w K mg base CX0 1 f fd ["telling"] (a03 K):=by
 refine F.ok scNamesOf (fun vs H Q E h=>?_) (fun ah A outer s H vs Q E X h=>?_)
 . obtain⟨a,fs,ps,rfl,_⟩:=h;rfl
 obtain⟨a,fs,ps,rfl,ht,hf,hp,ab,af,q⟩:=h;obtain⟨aN,gN,tN⟩:=C.noNames;obtain⟨as,t1,t2⟩:=ht;cases t2 with
 | @cons fa _ _ _ t3 t4 =>
 cases t4 with
 | @cons pa _ _ _ t5 t6 =>
 cases t6;obtain⟨g,f1,f2⟩:=t3;obtain⟨d,p1,p2⟩:=t5;refine⟨_,ul (a8g scNamesOf.nd (i:=1) rfl (Or.inl rfl) (a1m oz))
  (ul (a7f AO rfl (a3l (abl ky (a12 gy (pv 0) sj (fun _ _=>rfl)) (a12 gy (pv 0) sj (fun _ _=>rfl)))) (wo (i:=2) scNamesOf.nd rfl (Or.inl rfl))
   (sv (a3v (abg AM CG CH ot (pv 1)
    (jx (xt (a8e (a1c zh (pv 2) (a46 sj) a38)) (fun _ _ _ _=>a4j (tf (show OpR _ _ (rIn K true) from a2c) (pv 0) (pe_g gN) (by with_unfolding_all rfl))) (fun _ _ _ _=>pv 0)) oz)))))
   (sv (yo (uf (rp rfl) rfl C.sorted Ew (jx (a0h (a23 rfl) rfl C.set HP (jx (pv 1) oz)) oz))))),?_⟩
 refine⟨AH _,fun n hn=>?_⟩;have O:Same H (upd H n (.lst [])):=gc hn _;have fl:g.length=fs.length:=AB f2;have pl:d.length=ps.length:=AB p2;have b1:=hf.1;have b2:=hp.1;refine⟨_,rfl,a,_,0,.ref fa,rfl,rfl,O.seqT t1,rfl,_,rfl,a,_,1,.ref pa,rfl,rfl,O.seqT t1,rfl,?_⟩;refine⟨fa,pa,_,_,rfl,rfl,O _ _ f1,O _ _ p1,?_,fun c hc=>?_⟩
 . rw[Ad,Ad];exact BK (l0 (by lia))
 have M:c≠n:=fun e=>by rw[e,ft] at hc;cases hc
 rw[<- Au];have s2:=gc hc (.lst ((g++d).map V.ref));refine⟨c,rfl,⟨_,SqL.of ft⟩,?_⟩;have pr:Paired (fun b r=>RowAt K H b r) (g++d) (fs++ps):=Paired.app f2 p2;have ac:(g++d).length=(fs++ps).length:=AB pr;have j:∀r∈fs++ps,r.length<=5:=fun r X=>by
  rcases Ap.mp X with h|h
  . exact (hf.2 r h).1
  . exact (hp.2 r h).1
 refine o9 (xs:=(g++d).map V.ref) (fun i σ H'=>Same H H'/\H' c=some (.lst ((g++d).map V.ref))/\H' n=some (.lst ((words ((fs++ps).take i)).map V.str))/\∃z,σ=[some (.ref a),some (.ref n),z]) ⟨O.trans s2,ft,?_,_,rfl⟩ (fun i σ H' _ p=>SqL.of p.2.1) ?_ ?_
 . rw[fq (AL M),ft];rfl
 . rintro i v σ H' hi ⟨e,N,o,z,rfl⟩;rw[Am] at hi;cases hb:(g++d)[i]? with
   | none=>rw[hb] at hi;cases hi
   | some b =>
    rw[hb] at hi;have R:v=.ref b:=(A0 hi).symm;subst R;obtain⟨r,W,ae⟩:=Paired.nth pr hb;have U:r∈fs++ps:=AE W;have I:RowAt K H' b r:=ae.same e;have ak:=j r U;have ag:r.length≠0:=fun h=>ab r U (List.length_eq_zero_iff.mp h);refine⟨_,rfl,.inl ⟨rfl,_,SqL.of o⟩,_,rfl,_,rfl,b,_,rfl,I,?_,fun t hT=>?_⟩
    . rw[Ad,show (some (1:Int))=some ((1:Nat):Int) from rfl,HT.sIx_nat];lia
    have e1:cutV (r.map V.str) (some 1) none=(r.drop 1).map V.str:=vz (k:=1);rw[e1];have s3:Same H' (upd H' t (.tup ((r.drop 1).map V.str))):=gc hT _;refine⟨t,rfl,⟨_,SqT.of ft⟩,?_⟩;refine ye ((r.drop 1).map V.str) (fun v => !inV v (Mir.noNames.map V.str)) id a2u (SqT.of ft) ?_ ?_ ?_ ?_
    . rw[Ad,Bc];exact BK (l0 (by lia))
    . intro v R L e2 Q' G;obtain⟨y,hy,rfl⟩:=Az.mp R;exact⟨_,rfl,aN,_,rfl,.inr (tN _),rfl,pq _,_,rfl,G L (Same.refl _)⟩
    . intro v R ai L e2 Q' G;obtain⟨y,hy,rfl⟩:=Az.mp R;exact⟨_,rfl,G L (Same.refl _)⟩
    . intro D L hD Y hd;have hw:(((r.drop 1).map V.str).filter (fun v => !inV v (Mir.noNames.map V.str))).map id=(li r).map V.str:=by
       rw[Do,Jx];unfold li
       congr 1
       apply List.filter_congr;intro x _;show (!inV (.str x) (Mir.noNames.map V.str))=_;rw[o7]
      rw[hw] at hd;have s4:Same H L:=(e.trans s3).trans Y;have aa:(fs++ps).take (i+1)=(fs++ps).take i++[r]:=by rw[Ca,W];rfl
      have wl:=ro j;have aj:(words ((fs++ps).take i)).length<=200*5+200*5:=by
       have h1:=ro (rs:=(fs++ps).take i) (m:=5) (fun r X=>j r (BV X));have h2:=List.length_take_le' i (fs++ps);rw[Aj] at h2
       lia
      have al:(li r).length<=5:=by
       unfold li;have h1:=BM (fun x => !decide (x∈Mir.noNames)) (r.drop 1);have h2:=Bc (i:=1) (l:=r)
       lia
      refine⟨n,D,_,_,rfl,rfl,Y _ _ (s3 _ _ o),hd,?_,?_⟩
      . rw[Ad,Ad];exact Ax (by lia) (show (2005:Nat)<=sizeLine by decide)
      refine⟨fun b' u G=>?_,?_,?_,_,rfl⟩
      . rw[fq (g6 G hn)];exact s4 _ _ G
      . rw[fq M];exact Y _ _ (s3 _ _ N)
      . rw[ft,aa,a4u,Au]
 . rintro σ H' ⟨e,N,o,z,rfl⟩;rw[Ad,ac,BP] at o;refine⟨_,rfl,n,_,rfl,SqL.of o,?_,fun S ss hS hd=>?_⟩
   . have wl:=ro j;rw[Aj] at wl;show _<4096
     lia
   have s5:=gc hS (SetO P w S ss);refine⟨S,ss,rfl,ft,af ss hd.nodup (fun y hy=>(hd.mem y).mp hy),fun p zs T J Z=>?_⟩;have s6:=gc T (.lst (zs.map V.str));refine q p zs _ ?_ (e.trans (s5.trans s6)) ft (J.nodup_iff.mpr hd.nodup) (fun y=>(J.mem_iff).trans (hd.mem y)) Z;cases hH:H p with
   | none=>rfl
   | some u=>exact nomatch (s5 _ _ (e _ _ hH)).symm.trans T
def kn(ns:List Int)(k:Nat):Int:=(ns[k]?).getD 0
def sn(K:Ac):Sp:=fun vs H Q _=>∃(a:Addr) (ns:List Int) (k:Nat),vs=[.ref a,.int (k:Int)]/\SqL K H a (ns.map V.int)/\Q (.int (kn ns k)) H
theorem mq(hl:(xs.length:Int)=m)(hm:0<m):∃v,atI xs (i % m)=some v/\v∈xs:=by
 have h0:=B8 i (Ex hm);have b:=Bz i hm;generalize i % m=j at h0 b;obtain⟨k,rfl⟩:=Int.eq_ofNat_of_zero_le h0;have a:k<xs.length:=by lia
 exact⟨xs[k],jg (Ag a),C0 a⟩
abbrev a54:Stmt:=top 32
theorem aeh:FnScope ["_law_script","_law_k"] ["_law_script","_law_k"] (iu a54):=⟨rfl,rfl,rfl,by decide +kernel,rfl,by decide +kernel,by decide +kernel⟩
theorem a87(C:Con K mg w)(F:Fun K "_law_cell_at" "_law_cell_at" a54 f fd):FnOk P w K mg base CX0 1 f fd ["_law_script","_law_k"] (sn K):=by
 refine F.okQ aeh (fun vs H Q E h=>?_) (fun i A outer s H vs Q E j h=>?_)
 . obtain⟨a,ns,k,rfl,_⟩:=h;rfl
 obtain⟨a,ns,k,rfl,g,q⟩:=h;refine⟨_,fw (ie (gi qa (qv 1) (ii ld rfl C.len AV (fy (qv 0) ad)) (gn _)) (fz (gu (gx l8 (qv 0) (qv 1) (fun _ _=>rfl)))) iq)
  (fz (gu fu)),?_⟩
 have hl:(ns.map V.int).length=ns.length:=Ad _;refine⟨_,rfl,_,rfl,a,_,rfl,.inl g,_,_,rfl,rfl,_,rfl,iteB (fun c=>?_) (fun c=>?_)⟩
 . have d:=of_decide_eq_true c;rw[hl] at d;have b:k<ns.length:=by lia
   have e:kn ns k=ns[k]:=by unfold kn;rw[Ag b];rfl
   rw[e] at q;exact⟨_,rfl,_,rfl,a,_,_,_,rfl,rfl,g,jg (by rw[Am,Ag b];rfl),q⟩
 . have d:=of_decide_eq_false c;rw[hl] at d;have b:ns.length<=k:=by lia
   have e:kn ns k=0:=by unfold kn;rw[Bu b];rfl
   rw[e] at q;exact q
def a11(K:Ac):Sp:=fun vs H Q _=>∃(a:Addr) (ns:List Int),vs=[.ref a]/\SqL K H a (ns.map V.int)/\∀H',Q (.bl true) H'
theorem a25(xs:List Str)(n:Nat)(hn:n<=xs.length):cutV (xs.map V.str) none (some (n:Int))=(xs.take n).map V.str:=by
 unfold cutV;rw[HT.sIx_nat,HT.sIx_none,Ad,Df hn,CO,Es,FO]
theorem adi(d:QG X (.Name x px) (gq i))(c:QG X (.Name y a) (gq j))(hc:X.calm=true:=by rfl)(f:(assignEach [.Name x px,.Name y a] X.env).map (·.2)=assign (.Name x px) X.env::(assignEach [.Name y a] X.env).map (·.2):=by rfl)(e:(assignEach [.Name y a] X.env).map (·.2)=assign (.Name y a) X.env::(assignEach [] X.env).map (·.2):=by rfl)(hn:(assignEach [.Name x px,.Name y a] X.env).length=2:=by rfl)(b:(assignEach [.Name x px,.Name y a] X.env).findIdx? (·.1)=none:=by rfl):QG X (.Tuple [.Name x px,.Name y a] k pos) (gTup X.K 2 (my (gq i) (my (gq j) gNil))) :=
 ⟨a1t hc (kj d.run (kj c.run wg e) f) hn b⟩
theorem jv(b:UnR X (unaryOp op) r)(ha:QE X a c):QE X (.UnaryOp op a pos) (tUn r c):=⟨afl b ha.run⟩
theorem jd:atI (xs++[v]) (-1)=some v:=by
 unfold atI ixN;have b:¬ (0:Int) <= -1:=by decide
 have a : -(((xs++[v]).length:Nat):Int) <= -1:=by rw[Aj,Ba];lia
 rw[if_neg b,if_pos a];have c:((-1:Int)+(((xs++[v]).length:Nat):Int)).toNat=xs.length:=by rw[Aj,Ba];lia
 rw[c];simp
theorem a37(g:QG X (.Name x px) (gq i))(f:QG X (.Name y b) (gq j))(e:QG X (.Name z a) (gq l))(hc:X.calm=true:=by rfl)(m:(assignEach [.Name x px,.Name y b,.Name z a] X.env).map (·.2)=assign (.Name x px) X.env::(assignEach [.Name y b,.Name z a] X.env).map (·.2):=by rfl)(h:(assignEach [.Name y b,.Name z a] X.env).map (·.2)=assign (.Name y b) X.env::(assignEach [.Name z a] X.env).map (·.2):=by rfl)(d:(assignEach [.Name z a] X.env).map (·.2)=assign (.Name z a) X.env::(assignEach [] X.env).map (·.2):=by rfl)(hn:(assignEach [.Name x px,.Name y b,.Name z a] X.env).length=3:=by rfl)(c:(assignEach [.Name x px,.Name y b,.Name z a] X.env).findIdx? (·.1)=none:=by rfl):QG X (.Tuple [.Name x px,.Name y b,.Name z a] k pos) (gTup X.K 3 (my (gq i) (my (gq j) (my (gq l) gNil)))) :=
 ⟨a1t hc (kj g.run (kj f.run (kj e.run wg d) h) m) hn c⟩
end K56
namespace L2
open PySem PySem.Spec PyProof.Rows
theorem a0w(d:u.heap.IsTupleIter j q k)(l:u.heap.IsTuple q a)(h:a[k]? = some v)(r:∀g,g.IsTupleIter j q (k+1)->Cu j u.heap g->R v { u with heap:=g }):wpAny (model prog w) A (Be (.ref j)) R E u:=by
 obtain⟨o,c,i,b⟩:=id d;obtain⟨p,n,s,m,e⟩:=l;have ty:=d.typeIs;unfold Be;refine Aa (Bm ty Dj (Bp Dj ty FC ?_ (Fx _)));show wpAny (model prog w) _ (field (.ref j) 0 >>= _) _ _ u;refine Aa (Bn c b (x:=.ref q) rfl ?_);have nn:¬ (Value.ref q == Value.none)=true:=Ai;show wpAny (model prog w) _ (if (Value.ref q == Value.none)=true then _ else _) _ _ u;rw[if_neg nn];show wpAny (model prog w) _ (field (.ref j) 1 >>= _) _ _ u;refine Aa (Bn c b (x:=.int k 0) rfl ?_);show wpAny (model prog w) _ (seqItems? (.ref q) >>= _) _ _ u;refine Aa (Bl n e ?_);simp only[Bo,h];have kept:∀f:Array Value->Array Value,(u.heap.update j (FM f)).get? j=some (FM f o):=fun f=>B7 _ c (DS (CV b _));refine Aa (Fu c b (by simp) (Ae ⟨v,rfl,Ae (r _ ⟨_,kept _,?_,?_⟩ (CK ..))⟩))
 . rw[EJ];exact i
 . rw[CV b];simp[rawInt]
theorem a0q(n:A.handled=none)(f:u.heap.IsTupleIter j q k)(l:u.heap.IsTuple q b)(i:b[k]? = none)(s:∀g e,Ho j u.heap g->(∃o,g.get? e=some o/\o.cls=.type "StopIteration")->E (.ref e) { u with heap:=g }):wpAny (model prog w) A (Be (.ref j)) R E u:=by
 obtain⟨o,c,t,d⟩:=id f;obtain⟨p,r,v,m,h⟩:=l;have ty:=f.typeIs;unfold Be;refine Aa (Bm ty Dj (Bp Dj ty FC ?_ (Fx _)));show wpAny (model prog w) _ (field (.ref j) 0 >>= _) _ _ u;refine Aa (Bn c d (x:=.ref q) rfl ?_);have nn:¬ (Value.ref q == Value.none)=true:=Ai;show wpAny (model prog w) _ (if (Value.ref q == Value.none)=true then _ else _) _ _ u;rw[if_neg nn];show wpAny (model prog w) _ (field (.ref j) 1 >>= _) _ _ u;refine Aa (Bn c d (x:=.int k 0) rfl ?_);show wpAny (model prog w) _ (seqItems? (.ref q) >>= _) _ _ u;refine Aa (Bl r h ?_);simp only[Bo,i];refine Aa (Cz (Aa (Fu c d (by simp) ?_)));show wpAny (model prog w) _ (newExc (.type "StopIteration") [] >>= _) _ _ _;refine Aa ?_;unfold newExc newTuple;refine Aa (AZ ?_ (by size_fits));refine Aa (m:=firstArgMember _ _) (EM (a:=Value.none) (by simp only[firstArgMember];rfl) (AZ ?_ (by size_fits)));refine Fn ?_ ?_
 . exact n
 . exact s _ _ (((CK ..).extBut.push _).push _) ⟨_,An _ rfl,rfl⟩
theorem a6n(D:ZipApart z h to j k s r)(g1:IsZip u.heap z h to .none)(Y:IsPair u.heap h (.ref j) (.ref k))(W:IsPair u.heap to a b)(t1:u.heap.IsTupleIter j s k1)(t2:u.heap.IsTupleIter k r k2)(S:u.heap.IsTuple s xs)(O:u.heap.IsTuple r ys)(P:xs[k1]? = some x)(hy:ys[k2]? = some y)(hR:∀g,IsZip g z h to (rawInt u.heap.objs.size)->IsPair g to x y->g.IsTupleIter j s (k1+1)->g.IsTupleIter k r (k2+1)->IsPair g u.heap.objs.size x y->
 (∀c o,c≠z->c≠to->c≠j->c≠k->u.heap.get? c=some o->g.get? c=some o)->R (some (.ref u.heap.objs.size)) { u with heap:=g }):wpAny (model prog w) A (pyNext (.ref z)) R E u:=by
 have ty:u.TypeIs (.ref z) "zip" := ⟨_,g1,rfl⟩
 unfold pyNext;refine Aa (Di (Bm ty Cf (Bp Cf ty Eb ?_ (DO _))));show wpAny (model prog w) _ (field (.ref z) 2 >>= _) _ _ u;refine Aa (Bn g1 rfl (x:=.bool false) rfl ?_);show wpAny (model prog w) _ (field (.ref z) 3 >>= _) _ _ u;refine Aa (Bn g1 rfl (x:=.ref h) rfl (Aa (Bl Y rfl ?_)));show wpAny (model prog w) _ (AS (.ref z) >>= _) _ _ u;refine Aa ?_;unfold AS;refine Aa (Bn g1 rfl (x:=.none) rfl (Ae ?_));simp only[if_true];refine Aa (Cz (Aa (Bn g1 rfl (x:=.ref to) rfl (Aa (Bq g1 (by simp) fun m1 y1 i=>?_)))));have N:IsZip m1 z h to .ellipsis:=y1;refine Aa ?_;simp only[Gs,Hg,DE,DT];refine Aa (Aa (ER ?_));show wpAny (model prog w) _ (Be (.ref j) >>= _) _ _ _;refine Aa (a0w (t1.extBut i.extBut D.i1z) (S.extBut i.extBut D.l1z) P fun m2 y2 l=>Ae ?_);have J:IsPair m2 to a b:=l.extBut _ _ D.TOi1 (i.extBut _ _ D.TOz W);refine Aa (Bl J rfl (Aa (Ec J fun m3 M m=>Aa (DJ (Ae ?_)))));have T:IsPair m3 to x b:=M;refine Aa (Aa (ER ?_));show wpAny (model prog w) _ (Be (.ref k) >>= _) _ _ _;have w2:=((t2.extBut i.extBut D.i2z).extBut l.extBut D.i12.symm).extBut m.extBut D.TOi2.symm;have x2:=((O.extBut i.extBut D.l2z).extBut l.extBut D.l2i1).extBut m.extBut D.l2TO;refine Aa (a0w w2 x2 hy fun Q y4 n=>Ae ?_);have H:IsPair Q to x b:=n.extBut _ _ D.TOi2 T;refine Aa (Bl H rfl (Aa (Ec H fun d y5 p=>Aa (DJ (Ae (Ae ?_))))));have L:IsPair d to x y:=y5;refine Aa (Bl L rfl (Aa (HQ ?_)));have sz:d.objs.size=u.heap.objs.size:=by rw[p.1,n.1,m.1,l.1,i.1]
 have v:IsZip d z h to .ellipsis:=p.extBut _ _ D.TOz.symm (n.extBut _ _ D.i2z.symm (m.extBut _ _ D.TOz.symm (l.extBut _ _ D.i1z.symm N)));have kp:∀c o,c≠z->c≠to->c≠j->c≠k->u.heap.get? c=some o->d.get? c=some o:=fun c o n1 n2 n3 n4 e=>p.extBut _ _ n2 (n.extBut _ _ n4 (m.extBut _ _ n2 (l.extBut _ _ n3 (i.extBut _ _ n1 e))));have p1:d.IsTupleIter j s (k1+1):=((y2.extBut m.extBut D.TOi1.symm).extBut n.extBut D.i12).extBut p.extBut D.TOi1.symm;have p2:d.IsTupleIter k r (k2+1):=y4.extBut p.extBut D.TOi2.symm;show wpAny (model prog w) _ (Ck (.ref z) (.ref d.objs.size) >>= _) _ _ _;refine Aa ?_;unfold Ck;have Z:IsZip (d.push { cls:=.type "tuple",data:=.seq #[x,y] }) z h to .ellipsis:=Ab _ v;refine Aa (Bq Z (by simp) fun U y7 I=>?_);have z7:IsZip U z h to (rawInt d.objs.size):=y7;refine Bq z7 (by simp) fun q X C=>?_;have t:IsZip q z h to (rawInt d.objs.size):=X;have f:∀c o,c≠z->d.get? c=some o->q.get? c=some o:=fun c o n1 e=>C.extBut _ _ n1 (I.extBut _ _ n1 (Ab _ e));have G:d.objs.size≠z:=BX (As v);have np:IsPair q d.objs.size x y:=C.extBut _ _ G (I.extBut _ _ G (An _ rfl));rw[sz] at t np;refine Ae ⟨_,rfl,Ae ?_⟩;show R (some (.ref d.objs.size)) _;rw[sz];exact hR q t (f _ _ D.TOz L) (p1.at fun o e=>f _ o D.i1z e) (p2.at fun o e=>f _ o D.i2z e) np fun c o n1 n2 n3 n4 e=>f c o n1 (kp c o n1 n2 n3 n4 e)
theorem a27(G:A.handled=none)(D:ZipApart z a to d H l J)(g1:IsZip u.heap z a to .none)(t:IsPair u.heap a (.ref d) (.ref H))(t1:u.heap.IsTupleIter d l k1)(p:u.heap.IsTuple l xs)(r:xs[k1]? = none)(I:∀g,(∀c o,c≠z->c≠d->u.heap.get? c=some o->g.get? c=some o)->R none { u with heap:=g }):wpAny (model prog w) A (pyNext (.ref z)) R E u:=by
 have ty:u.TypeIs (.ref z) "zip" := ⟨_,g1,rfl⟩
 unfold pyNext;refine Aa (Di (Bm ty Cf (Bp Cf ty Eb ?_ (DO _))));show wpAny (model prog w) _ (field (.ref z) 2 >>= _) _ _ u;refine Aa (Bn g1 rfl (x:=.bool false) rfl ?_);show wpAny (model prog w) _ (field (.ref z) 3 >>= _) _ _ u;refine Aa (Bn g1 rfl (x:=.ref a) rfl (Aa (Bl t rfl ?_)));show wpAny (model prog w) _ (AS (.ref z) >>= _) _ _ u;refine Aa ?_;unfold AS;refine Aa (Bn g1 rfl (x:=.none) rfl (Ae ?_));simp only[if_true];refine Aa (Cz (Aa (Bn g1 rfl (x:=.ref to) rfl (Aa (Bq g1 (by simp) fun m1 C h=>?_)))));have n:IsZip m1 z a to .ellipsis:=C;refine Aa ?_;simp only[Gs,Hg,DE,DT];refine Aa (Aa (ER ?_));show wpAny (model prog w) _ (Be (.ref d) >>= _) _ _ _;refine Aa (a0q G (t1.extBut h.extBut D.i1z) (p.extBut h.extBut D.l1z) r fun m2 e m v=>?_);obtain⟨s,f,i⟩:=v;have j:IsZip m2 z a to .ellipsis:=m _ _ D.i1z.symm n;have ne:e≠z:=fun q=>by
  subst q;rw[j] at f;cases f;simp at i
 refine Bq j (by simp) fun y _ k=>?_;refine Aa (DZ (T := "StopIteration") (b:=true) ⟨s,k.extBut _ _ ne f,i⟩ Ft ?_);exact Ae (I y fun c o n1 n3 q=>k.extBut _ _ n1 (m _ _ n3 (h.extBut _ _ n1 q)))
def Ity(K:Ac)(l1 l2:Addr):It where
 go:=fun i H=>∃xs ys x y,SqT K H l1 xs/\SqT K H l2 ys/\xs[i]? = some x/\ys[i]? = some y
 yld:=fun i H v H'=>∃x y p,(∀xs,SqT K H l1 xs->xs[i]? = some x)/\(∀ys,SqT K H l2 ys->ys[i]? = some y)/\H p=none/\H'=upd H p (.tup [x,y])/\v=.ref p
 stop:=fun i H=>∃xs ys,SqT K H l1 xs/\SqT K H l2 ys/\xs.length<=i
theorem wu(I:Inv X a σ H s)(h:SqT X.K H l xs)(f:FpOk X a H l):False:=by
 rcases h with (q|⟨o,q⟩)|⟨o,its,n,q,_⟩
 . rw[f.1] at q;cases q
 . rw[f.1] at q;cases q
 . have e:=I.ok.mod.kin _ _ q;rcases f.2.2.2.1 with z|z
   . exact I.ok.noex l o e z
   . exact absurd (AK (As e) (Ax I.ok.bsz z)) (Bx _)
def ab1(n l1 l2:Addr)(i:Nat)(h:Heap):Prop:=IsZip h (n+4) (n+2) (n+3) .none/\IsPair h (n+2) (.ref n) (.ref (n+1))/\(∃a b,IsPair h (n+3) a b)/\h.IsTupleIter n l1 i/\h.IsTupleIter (n+1) l2 i
theorem a7w{K:Ac}{x1}(n l1 l2:Addr):Turn P w K (.Tuple aa x1 pos) (Ity K l1 l2) (j3 n) (n+4) (ab1 n l1 l2) where
 mem:=by simp[j3]
 obj:=fun i h st b hb=>by
  obtain⟨hz,d,⟨a,c,f⟩,⟨o1,e1,c1,d1⟩,⟨o2,e2,c2,d2⟩⟩:=st;unfold j3 at hb;simp only[Ah,Ay,or_false] at hb;rcases hb with rfl|rfl|rfl|rfl|rfl
  . exact⟨_,hz,fun v z=>by cases z⟩
  . exact⟨_,d,fun v z=>by cases z⟩
  . exact⟨_,f,fun v z=>by cases z⟩
  . exact⟨o1,e1,fun v z=>by rw[d1] at z;cases z⟩
  . exact⟨o2,e2,fun v z=>by rw[d2] at z;cases z⟩
 keep:=fun i h h' st k=>by
  obtain⟨hz,d,⟨a,c,f⟩,A,F⟩:=st;exact⟨k _ (by simp[j3]) _ hz,k _ (by simp[j3]) _ d,⟨a,c,k _ (by simp[j3]) _ f⟩,A.at fun o e=>k _ (by simp[j3]) o e,F.at fun o e=>k _ (by simp[j3]) o e⟩
 item:=by
  intro X Y O hK hc i g s σ H E I m st S;subst Y O hK;obtain⟨hz,d,⟨a,c,f⟩,A,F⟩:=st;obtain⟨xs,ys,x,y,C,J,hx,hy⟩:=S;obtain⟨l,U,Q,_⟩:=I.tuple C;obtain⟨L,r2,L2,_⟩:=I.tuple J;obtain⟨u,hu,ru⟩:=U.get hx;obtain⟨v,hv,rv⟩:=r2.get hy;have D:ZipApart (n+4) (n+2) (n+3) n (n+1) l1 l2:=om (fun z=>wu I C (m _ z)) (fun z=>wu I J (m _ z));refine a6n D hz d f A F (show s.heap.IsTuple l1 l.toArray from Q) (show s.heap.IsTuple l2 L.toArray from L2) (x:=u) (y:=v) (by simpa using hu) (by simpa using hv) fun h' a1 a2 a3 a4 a5 N=>?_;have I1:Inv X g σ H { s with heap:=h' }:=I.turnedL (ch:=j3 n) (t':=s.toks) (fun b o hb e=>by
   unfold j3 at hb;simp only[Ah,Ay,or_false,not_or] at hb;exact N b o hb.1 hb.2.2.1 hb.2.2.2.1 hb.2.2.2.2 e) m
  refine⟨.ref s.heap.objs.size,rfl,wpAny_letOwnedTupleGo_zip a1 fun M T j=>?_⟩;have I2:Inv X g σ H { s with heap:=M }:=I1.turnedL (s:={ s with heap:=h' }) (ch:=j3 n) (t':=s.toks) (fun b o hb e=>by
   unfold j3 at hb;simp only[Ah,Ay,or_false,not_or] at hb;exact j.extBut _ _ hb.1 e) m
  have fresh:H s.heap.objs.size=none:=I.hok.fresh (Ak _);have pz:s.heap.objs.size≠n+4:=BX (As hz);have I3:Inv X g σ (upd H s.heap.objs.size (.tup [x,y])) { s with heap:=M }:=by
   refine I2.track fresh ?_ (BX I.lt) (fun z c' e t=>?_) (fun p hp t=>?_) ?_
   . cases q:X.s₀.heap.get? s.heap.objs.size with
     | none=>rfl
     | some o=>exact absurd (AK (As q) I.sz) (Bx _)
   . obtain⟨v',q⟩:=I.cell z c' e;exact absurd (t ▸ q.lt) (Bx _)
   . exact absurd (t ▸ As (I.pin p hp).1) (Bx _)
   . exact⟨by show 2<=sizeLine;decide,[u,v],.cons ru (.cons rv .nil),⟨_,j.extBut _ _ pz a5,rfl,_,rfl⟩⟩
  have Z:∀b∈j3 n,b≠s.heap.objs.size:=fun b hb e=>by
   have R:∃o,s.heap.get? b=some o:=by
    unfold j3 at hb;simp only[Ah,Ay,or_false] at hb;obtain⟨o1,g1,_⟩:=A;obtain⟨o2,g2,_⟩:=F;rcases hb with rfl|rfl|rfl|rfl|rfl
    . exact⟨_,hz⟩
    . exact⟨_,d⟩
    . exact⟨_,f⟩
    . exact⟨_,g1⟩
    . exact⟨_,g2⟩
   obtain⟨o,R⟩:=R;exact absurd (e ▸ As R) (Bx _)
  have G:IsPair h' (n+2) (.ref n) (.ref (n+1)):=N _ _ D.TIz D.TITO D.TIi1 D.TIi2 d;refine⟨.ref s.heap.objs.size,_,I3,rfl,⟨x,y,_,fun zs r=>by rw[I.tuple_inj r C];exact hx,fun zs r=>by rw[I.tuple_inj r J];exact hy,fresh,rfl,rfl⟩,⟨T,j.extBut _ _ D.TIz G,⟨_,_,j.extBut _ _ D.TOz a2⟩,a3.extBut j.extBut D.i1z,a4.extBut j.extBut D.i2z⟩,fun b hb=>?_⟩;rw[fq (Z b hb)];exact (m b hb).1
 done:=by
  intro X Y O hK hc i g s σ H E I m st S;subst Y O hK;obtain⟨hz,d,⟨a,c,f⟩,A,F⟩:=st;obtain⟨xs,ys,C,J,hl⟩:=S;obtain⟨l,U,Q,_⟩:=I.tuple C;have ab:=U.length;have D:ZipApart (n+4) (n+2) (n+3) n (n+1) l1 l2:=om (fun z=>wu I C (m _ z)) (fun z=>wu I J (m _ z));refine a27 (I.ok.hd hc) D hz d A (show s.heap.IsTuple l1 l.toArray from Q) (by rw[CB,Bu (by lia)]) fun h' N=>⟨rfl,I.turnedL (ch:=j3 n) (t':=s.toks) (fun b o hb e=>?_) m⟩
  unfold j3 at hb;simp only[Ah,Ay,or_false,not_or] at hb;exact N b o hb.1 hb.2.2.2.1 e
 self:=fun _ _ _ _ _ st h=>Gu st.1 h
theorem a70(l1 l2:Addr)(xs ys:Array Value):Meets (Builtin.«zip.__new__» ⟨[.type "zip",.ref l1,.ref l2],[]⟩) (fun _ R s=>s.heap.IsTuple l1 xs/\s.heap.IsTuple l2 ys/\
 R (.ok (.ret (.ref (s.heap.objs.size+4)))) { s with heap:=((((s.heap.push { cls:=.type "tuple_iterator",data:=.fields #[.ref l1,.int 0 0] }).push { cls:=.type "tuple_iterator",data:=.fields #[.ref l2,.int 0 0] }).push { cls:=.type "tuple",data:=.seq #[.ref s.heap.objs.size,.ref (s.heap.objs.size+1)] }).push { cls:=.type "tuple",data:=.seq #[.none,.none] }).push { cls:=.type "zip",data:=.fields #[.none,.bool false,.bool false,.ref (s.heap.objs.size+2),.ref (s.heap.objs.size+3)] } }) :=
 .of_wp fun prog w A R s h=>by
  obtain⟨m,g,d,tk,os⟩:=s;obtain⟨f,c,h⟩:=h;have sub:=sub_zip;have b:IQ (Ht ⟨m,g,d,tk,os⟩) l1 xs:=f;have a:IQ (Ht ⟨m.push { cls:=.type "tuple_iterator",data:=.fields #[.ref l1,.int 0 0] },g,d,tk,os⟩) l2 ys:=by
   obtain⟨o,e,r⟩:=c;exact⟨o,Ab _ e,r⟩
  have i:(m.push { cls:=.type "tuple_iterator",data:=.fields #[.ref l1,.int 0 0] }).objs.size=m.objs.size+1:=Bj ..
  wp_walk using Em b,Em a
  refine⟨_,rfl,?_⟩;simp only[Bj];exact h
def aaw(K:Ac)(ta:TA):TI:=fun σ H R=>ta σ H fun vs H1=>∃l1 l2 xs ys,vs=[.ref l1,.ref l2]/\SqT K H1 l1 xs/\SqT K H1 l2 ys/\R (Ity K l1 l2) H1
theorem abx{x1}(T:Gl X "zip")(hm:X.mg "zip" = none)(ha:PA X [a,b] J)(hs:starEach [a,b] X.env=[(false,eval a X.env),(false,eval b X.env)])(v:starEach [b] X.env=[(false,eval b X.env)]):
 PI X (.Tuple D x1 E) (.Call (.Name "zip" p) [a,b] [] pos) (aaw X.K J):=by
 intro w s σ H R I h;refine Call_ (nz I T hm boot_zip (BL (thn (ha pos w s σ H _ I h) fun us c ⟨vs,G,u,O,A⟩=>?_) (by rw[hs,v]) (by rw[v];rfl)));obtain⟨l1,l2,xs,ys,e,A,P,q⟩:=A;subst e;cases O with
 | cons r rr =>
  cases rr with
  | cons r' rr =>
   cases rr;cases r;cases r';obtain⟨n,W,N,_⟩:=u.tuple A;obtain⟨t,U,M,_⟩:=u.tuple P;have S:c.heap.IsTuple l1 n.toArray:=N;have Q:c.heap.IsTuple l2 t.toArray:=M;refine callType_new F.called_zip (by decide) (Jm _ _) (Jy _ _) (fun obj=>Ih obj _ _) Jz (a70 l1 l2 n.toArray t.toArray) ⟨S,Q,?_⟩;have l:∀(m:Heap) (o:Obj),(m.push o).objs.size=m.objs.size+1:=fun m o=>Bj ..;have L:∀b o,c.heap.get? b=some o->∀d g i j k,(((((c.heap.push d).push g).push i).push j).push k).get? b=some o:=fun b o e d g i j k=>Ab _ (Ab _ (Ab _ (Ab _ (Ab _ e))));have at0:∀d g i j k:Obj,d.isFreed=false->(((((c.heap.push d).push g).push i).push j).push k).get? c.heap.objs.size=some d:=fun d g i j k f=>Ab _ (Ab _ (Ab _ (Ab _ (An _ f))));have z:∀d g i j k:Obj,g.isFreed=false->(((((c.heap.push d).push g).push i).push j).push k).get? (c.heap.objs.size+1)=some g:=fun d g i j k f=>by rw[<- l c.heap d];exact Ab _ (Ab _ (Ab _ (An _ f)))
   have at2:∀d g i j k:Obj,i.isFreed=false->(((((c.heap.push d).push g).push i).push j).push k).get? (c.heap.objs.size+2)=some i:=fun d g i j k f=>by
    have e:c.heap.objs.size+2=((c.heap.push d).push g).objs.size:=by rw[l,l]
    rw[e];exact Ab _ (Ab _ (An _ f))
   have y:∀d g i j k:Obj,j.isFreed=false->(((((c.heap.push d).push g).push i).push j).push k).get? (c.heap.objs.size+3)=some j:=fun d g i j k f=>by
    have e:c.heap.objs.size+3=(((c.heap.push d).push g).push i).objs.size:=by rw[l,l,l]
    rw[e];exact Ab _ (An _ f)
   have C:∀d g i j k:Obj,k.isFreed=false->(((((c.heap.push d).push g).push i).push j).push k).get? (c.heap.objs.size+4)=some k:=fun d g i j k f=>by
    have e:c.heap.objs.size+4=((((c.heap.push d).push g).push i).push j).objs.size:=by rw[l,l,l,l]
    rw[e];exact An _ f
   have g1:=C { cls:=.type "tuple_iterator",data:=.fields #[.ref l1,.int 0 0] } { cls:=.type "tuple_iterator",data:=.fields #[.ref l2,.int 0 0] } { cls:=.type "tuple",data:=.seq #[.ref c.heap.objs.size,.ref (c.heap.objs.size+1)] } { cls:=.type "tuple",data:=.seq #[.none,.none] } { cls:=.type "zip",data:=.fields #[.none,.bool false,.bool false,.ref (c.heap.objs.size+2),.ref (c.heap.objs.size+3)] } rfl;refine⟨⟨_,g1,rfl⟩,?_⟩;refine Gu (s:={ c with heap:=_ }) g1 ?_;refine⟨c.heap.objs.size+4,j3 c.heap.objs.size,ab1 c.heap.objs.size l1 l2,Ity X.K l1 l2,G,rfl,u.kept (t':=c.toks) fun b o e=>L b o e _ _ _ _ _,a7w _ _ _,⟨g1,at2 _ _ _ _ _ rfl,⟨_,_,y _ _ _ _ _ rfl⟩,⟨_,at0 _ _ _ _ _ rfl,rfl,rfl⟩,⟨_,z _ _ _ _ _ rfl,rfl,rfl⟩⟩,fun b hb=>?_,q⟩;have x:c.heap.objs.size<=b:=by
    unfold j3 at hb;simp only[Ah,Ay,or_false] at hb;rcases hb with rfl|rfl|rfl|rfl|rfl
    . exact B9 _ 4
    . exact B9 _ 2
    . exact B9 _ 3
    . exact Ak _
    . exact B9 _ 1
   exact u.fpOk (H':=G) x (u.hok.fresh x)
theorem ac7{x1}(g:Gl X "zip")(hm:X.mg "zip" = none)(ha:QA X [a,b] f)(hs:starEach [a,b] X.env=[(false,eval a X.env),(false,eval b X.env)]:=by rfl)(c:starEach [b] X.env=[(false,eval b X.env)]:=by rfl):
 QI X (.Tuple e x1 d) (.Call (.Name "zip" p) [a,b] [] pos) (aaw X.K f):=⟨abx g hm ha.run hs c⟩
def afq(K:Ac)(w:World)(td ty:TE):TE:=fun σ H Q=>td σ H fun x H1=>ty σ H1 fun y H2=>∃a kvs z v,x=.ref a/\y=.str z/\a0x K w a kvs/\kvs.lookup z=some v/\Q v H2
theorem acw{K:Ac}(hK:X.K=K)(r:X.w=w)(C:QE X o E)(hi:QE X i ty)(hs:NoSl i):QE X (.Subscript o i pos) (afq K w E ty):=by
 subst hK r;refine⟨fun b s σ H Q I h=>?_⟩;refine a4g Gb.lookup hs (thn (C.run b s σ H _ I h) fun u j ⟨x,M,l,p,N⟩=>thn (hi.run b j σ M _ l N) fun P J ⟨y,L,f,t,a,kvs,z,v,ex,G,hd,m,D⟩=>?_);subst ex G;obtain rfl:u=Value.ref a:=p;obtain⟨t',rfl⟩:=t;obtain⟨es,n,hl,q,A,g⟩:=hd;have c:J.heap.MapOf (strKind X.prog X.w) a (fun k=>findBy BW es k):=Jv f.kIn hl q;have hz:=g z;rw[m] at hz;obtain⟨O,d,e⟩:=RelO.some_of (v:=v) (o:=findBy BW es z) hz;exact⟨c.typeIs,Ji (FZ _ _ z t') c d ⟨v,L,f.tok _,e,D⟩⟩
end L2
namespace K56
open PySem PySem.Spec L2 Mir
theorem lenK(h:X.K=K):jz X (.builtin "len") (fun xs H Q=>∃p ys,xs=[.ref p]/\(SqL K H p ys\/SqT K H p ys)/\Q (.int ys.length) H):=by subst h;exact ld
theorem ixTK(h:X.K=K):IxR X (rIxT K):=by subst h;exact gy
theorem ixK(h:X.K=K):IxR X (rIxL K):=by subst h;exact l8
theorem j6(h:n<=1000):n<sizeLine:=l0 h
theorem ia(h:n<=1000):n<=sizeLine:=BK (l0 h)
theorem at0:atI (x::xs) 0=some x:=jg (xs:=x::xs) (v:=x) (j:=0) rfl
def Ok(x:Str):Prop:=(PyData.str x).canLay0=true
theorem a2e(xs:List V)(n:Nat):cutV xs (some (n:Int)) none=xs.drop n:=by
 unfold cutV;rw[HT.sIx_nat,show HT.sIx xs.length xs.length none=xs.length from rfl];by_cases h:n<=xs.length
 . rw[Df h,Bg (by rw[Bc];lia)]
 . rw[Gr (by lia),Jn,Hs (by lia),List.take_nil]
inductive Pl
 | row (r:List Str)
 | call (x c:Str)(vs:List Str)
def PlAt(H:Hp)(t:Addr):Pl->Prop
 | .row r=>H t=some (.tup (r.map V.str))
 | .call x c vs=>∃v,H t=some (.tup [.str "call",.str x,.str c,.ref v])/\H v=some (.tup (vs.map V.str))
theorem PlAt.same(h:PlAt H t p)(e:Same H H'):PlAt H' t p:=by
 cases p with
 | row r=>exact e _ _ h
 | call x c vs=>obtain⟨v,b,a⟩:=h;exact⟨v,e _ _ b,e _ _ a⟩
def PlOk:Pl->Prop
 | .row r=>(∃h r' fs,r=h::r'/\(h,fs)∈forms/\fs.length=r'.length)/\∀y∈r,Ok y
 | .call x c vs=>Ok x/\Ok c/\∀y∈vs,Ok y
theorem a1k:∀c∈Mir.letters.cps.toList++Mir.figures.cps.toList,c<128:=by decide +kernel
theorem qh(h:i5 y=true):Ok y:=by
 have b:y.cps.toList.all ki=true:=by
  unfold i5 at h;split at h
  . cases h
  . rw[BO] at h;exact h.2
 unfold Ok;simp only[DU];unfold PyData.strOk;rw[<- Array.all_toList,Dv];intro c hc;have a:=Dv.mp b c hc;unfold ki at a;rw[Bool.or_eq_true] at a;have:c<128:=a1k c (List.mem_append.mpr (a.imp of_decide_eq_true of_decide_eq_true));simp only[decide_eq_true_eq]
 lia
theorem js:∀y∈([("set" : Str),"read","write","new","free","first","second","nil","any","","is","not","if","while","call","cell","stretch","tree"]:List Str),(PyData.str y).canLay0=true:=by decide +kernel
theorem xw:∀x∈forms,x.1 ≠ "if" /\ x.1 ≠ "while" /\ x.1 ≠ "call" := by decide +kernel
theorem zw(h:PlAt H t p)(ok:PlOk p):∃(w:Str) (vs:List V),H t=some (.tup (.str w::vs))/\w ≠ "if" /\ w ≠ "while" := by
 cases p with
 | row r=>obtain⟨⟨w,d,fs,rfl,a,b⟩,_⟩:=ok;exact⟨w,d.map V.str,h,(xw _ a).1,(xw _ a).2.1⟩
 | call x c vs=>obtain⟨v,a,b⟩:=h;exact⟨"call",_,a,by decide +kernel,by decide +kernel⟩
structure Dn(n:Nat)(d:PyData):Prop where
 lay:d.canLay0=true
 dep:d.depth<=n
theorem Dn.ok(h:Dn n d)(hn:n<=16):EqOk d:=⟨h.lay,Ax h.dep hn⟩
theorem a84:∀{ds:List PyData},(∀d∈ds,Dn n d)->CJ ds=true/\Dg ds<=n
 | [],_=>⟨by simp only[CJ],by simp only[Dg];lia⟩
 | d::ds,h=>by
  obtain⟨c,b⟩:=a84 (ds:=ds) fun x e=>h x (Al _ e);have a:=h d (Af ..);refine⟨?_,?_⟩
  . simp only[CJ,BO];exact⟨a.lay,c⟩
  . simp only[Dg];exact Nat.max_le.mpr ⟨a.dep,b⟩
theorem Dn.tup(h:∀d∈ds,Dn n d):Dn (n+1) (.tuple ds):=by
 obtain⟨a,b⟩:=a84 h;refine⟨?_,?_⟩
 . simp only[DU];exact a
 . simp only[Fh];lia
inductive Deed
 | plain (p:Pl)
 | cond (r:List Str)(a b:List Deed)
 | loop (r:List Str)(F P:List (List Str))(a:List Deed)
inductive DeedX(K:Ac)(H:Hp)(L:Addr->List Deed->Prop)(t:Addr):Deed->Prop
 | plain (p:Pl)(h1:PlAt H t p)(h2:PlOk p):DeedX K H L t (.plain p)
 | cond (c i o:Addr)(r:List Str)(a b:List Deed)(h:H t=some (.tup [.str "if",.ref c,.ref i,.ref o]))(hc:H c=some (.tup (r.map V.str)))(okr:∀y∈r,Ok y)(hi:L i a)(ho:L o b):DeedX K H L t (.cond r a b)
 | loop (c td i fa pa:Addr)(r:List Str)(F P:List (List Str))(a:List Deed)(h:H t=some (.tup [.str "while",.ref c,.ref td,.ref i]))(hc:H c=some (.tup (r.map V.str)))(okr:∀y∈r,Ok y)(htd:H td=some (.tup [.ref fa,.ref pa]))(hF:RowsAt K H fa F)(hP:RowsAt K H pa P)(okF:∀r∈F,∀y∈r,Ok y)(okP:∀r∈P,∀y∈r,Ok y)(lF:F.length<=10)(lP:P.length<=10)(hi:L i a):DeedX K H L t (.loop r F P a)
def ListX(K:Ac)(H:Hp):List Nat->Addr->List Deed->Prop
 | [],_,_=>False
 | b::bs,l,ds=>∃ts:List Addr,H l=some (.lst (ts.map V.ref))/\Paired (DeedX K H (ListX K H bs)) ts ds/\ts.length<=b
section
theorem DeedX.same(h:DeedX K H L t d)(e:Same H H')(f:∀l ds,L l ds->g l ds):DeedX K H' g t d:=by
 cases h with
 | plain p h1 h2=>exact .plain p (h1.same e) h2
 | cond c i o r a b h hc okr hi ho=>exact .cond c i o r a b (e _ _ h) (e _ _ hc) okr (f _ _ hi) (f _ _ ho)
 | loop c td i fa pa r F P a h hc okr htd hF hP okF okP lF lP hi=>exact .loop c td i fa pa r F P a (e _ _ h) (e _ _ hc) okr (e _ _ htd) (hF.same e) (hP.same e) okF okP lF lP (f _ _ hi)
variable{K:Ac}{H H':Hp} in
theorem ListX.same:∀{bs:List Nat}{l:Addr}{ds:List Deed},ListX K H bs l ds->Same H H'->ListX K H' bs l ds
 | [],_,_,h,_=>h.elim
 | b::bs,l,ds,h,e=>by
  obtain⟨ts,c,a,d⟩:=h;exact⟨ts,e _ _ c,Paired.mapP a fun _ _ z=>z.same e fun _ _ y=>ListX.same y e,d⟩
variable{K:Ac}{H:Hp} in
variable{K:Ac}{H:Hp} in
variable{K:Ac}{H:Hp} in
structure Prc where
 name:Str
 res:Str
 ps:List Str
 F1:List (List Str)
 P1:List (List Str)
 F2:List (List Str)
 P2:List (List Str)
 body:List Deed
structure PrcX(K:Ac)(H:Hp)(bs:List Nat)(t pt t1 t2 f1 p1 f2 p2 bd:Addr)(p:Prc):Prop where
 tup:H t=some (.tup [.str p.name,.ref pt,.str p.res,.ref t1,.ref t2,.ref bd])
 pt:H pt=some (.tup (p.ps.map V.str))
 t1:H t1=some (.tup [.ref f1,.ref p1])
 t2:H t2=some (.tup [.ref f2,.ref p2])
 f1:RowsAt K H f1 p.F1
 p1:RowsAt K H p1 p.P1
 f2:RowsAt K H f2 p.F2
 p2:RowsAt K H p2 p.P2
 body:ListX K H bs bd p.body
 okn:Ok p.name
 okr:Ok p.res
 okp:∀y∈p.ps,Ok y
 ok1:(∀r∈p.F1,∀y∈r,Ok y)/\∀r∈p.P1,∀y∈r,Ok y
 ok2:(∀r∈p.F2,∀y∈r,Ok y)/\∀r∈p.P2,∀y∈r,Ok y
 l1:p.F1.length<=10/\p.P1.length<=10
 l2:p.F2.length<=10/\p.P2.length<=10
def PrcAt(K:Ac)(H:Hp)(bs:List Nat)(t:Addr)(p:Prc):Prop:=∃pt t1 t2 f1 p1 f2 p2 bd,PrcX K H bs t pt t1 t2 f1 p1 f2 p2 bd p
theorem PrcAt.same(h:PrcAt K H bs t p)(e:Same H H'):PrcAt K H' bs t p:=by
 obtain⟨pt,t1,t2,f1,p1,f2,p2,bd,x⟩:=h;exact⟨pt,t1,t2,f1,p1,f2,p2,bd,e _ _ x.tup,e _ _ x.pt,e _ _ x.t1,e _ _ x.t2,x.f1.same e,x.p1.same e,x.f2.same e,x.p2.same e,x.body.same e,x.okn,x.okr,x.okp,x.ok1,x.ok2,x.l1,x.l2⟩
end
def innL:Deed->List (List Deed)
 | .plain _=>[]
 | .cond _ a b=>[a,b]
 | .loop _ _ _ a=>[a]
def isLp:Deed->Bool
 | .loop _ _ _ _=>true
 | _=>false
inductive spLists(vs:List V)(H:Hp)(Q:VK)(E:XK):Prop
 | cond (t i o:Addr)(c:V)(h0:vs=[.ref t])(h:H t=some (.tup [.str "if",c,.ref i,.ref o]))(q:∀l,H l=none->Q (.ref l) (upd H l (.lst [.ref i,.ref o])))
 | loop (t i:Addr)(c d:V)(h0:vs=[.ref t])(h:H t=some (.tup [.str "while",c,d,.ref i]))(q:∀l,H l=none->Q (.ref l) (upd H l (.lst [.ref i])))
 | none (t:Addr)(w:Str)(vs':List V)(h0:vs=[.ref t])(h:H t=some (.tup (.str w::vs')))(n1:w ≠ "if")(n2:w ≠ "while")(q:∀l,H l=none->Q (.ref l) (upd H l (.lst [])))
theorem a95(h:DeedX K f (ListX K f bs) t d)(e:Same f H)(h0:vs=[.ref t])(q:∀l as,H l=none->Paired (ListX K f bs) as (innL d)->Q (.ref l) (upd H l (.lst (as.map V.ref)))):spLists vs H Q E:=by
 cases h with
 | plain p h1 h2 =>
  obtain⟨w,g,j,n1,n2⟩:=zw h1 h2;exact .none t w g h0 (e _ _ j) n1 n2 fun l hl=>q l [] hl .nil
 | cond c i o r a b h hc okr hi ho=>exact .cond t i o _ h0 (e _ _ h) fun l hl=>q l [i,o] hl (.cons hi (.cons ho .nil))
 | loop c td i fa pa r F P a h hc okr htd hF hP okF okP lF lP hi=>exact .loop t i _ _ h0 (e _ _ h) fun l hl=>q l [i] hl (.cons hi .nil)
theorem acp(h:DeedX K H L t d):∃(w:Str) (vs:List V),H t=some (.tup (.str w::vs))/\(w = "while" ↔ isLp d=true):=by
 cases h with
 | plain p h1 h2 =>
  obtain⟨w,e,f,n1,n2⟩:=zw h1 h2;exact⟨w,e,f,fun z=>absurd z n2,fun z=>by cases z⟩
 | cond c i o r a b h hc okr hi ho=>exact⟨_,_,h,fun z=>absurd z (by decide +kernel),fun z=>by cases z⟩
 | loop c td i fa pa r F P a h hc okr htd hF hP okF okP lF lP hi=>exact⟨_,_,h,fun _=>rfl,fun _=>rfl⟩
theorem gk(F:FnOk X.prog X.w X.K X.mg X.base CX0 k f fd ps sp)(hr:Room k X.A)(c:Cal X.K X.mg x f fd ps)(ha:QA X (e::es) t)(hg:Gl X x:=by rfl)(hdb:(x == ("__debug__" : Str))=false:=by decide)(he:starEach (e::es) X.env=(false,eval e X.env)::starEach es X.env:=by rfl)(hpl:(backTo pos (starEach es X.env)).any (·.1)=false:=by rfl):QE X (.Call (.Name x p) (e::es) [] pos) (za sp [] E0 t):=acf F hr hg c.name c.keep c.bind .nil im ha hdb he hpl
end K56
namespace L2
open PySem PySem.Spec
def zipF(p:Str->Bool)(as bs:List Str):List Str:=((as.zip bs).filter fun x=>p x.1).map (·.2)
theorem a82{K:Ac}(as bs:List Str)(p:Str->Bool)(t:SqT K g l1 (as.map V.str))(s:SqT K g l2 (bs.map V.str))(hl:as.length=bs.length)(hz:as.length<=1000)(ht:∀a b o,∀h:Bool->Hp->Prop,h (p a) o->L (some (.str a)::some (.str b)::j5 σ y) o h)(J:∀a b o,∀h:VK,h (.str b) o->I (some (.str a)::some (.str b)::j5 σ y) o h)(A:∀D H',g D=none->Same g H'->H' D=some (.lst ((zipF p as bs).map V.str))->Q (.ref D) H'):a4h K (Ity K l1 l2) g σ y L I Q:=by
 intro D w;have put:∀H ys,Same g H->Same g (upd H D (.lst ys)):=fun H ys e b u q=>by rw[fq (g6 q w)];exact e b u q
 have M:(as.zip bs).length=as.length:=by rw[DF,<- hl,IR]
 refine⟨fun i m H=>i<=as.length/\m=as.length - i/\Same g H/\H D=some (.lst (((((as.zip bs).take i).filter fun x=>p x.1).map (·.2)).map V.str)),⟨as.length,AH _,rfl,put _ _ (Same.refl _),ft⟩,?_⟩;rintro i m H ⟨hi,rfl,e,f⟩;by_cases d:i<as.length
 . have ha:as[i]? = some as[i]:=Ag d;have hb:bs[i]? = some (bs[i]'(by lia)):=Ag (by lia);generalize as[i]=a at ha;generalize bs[i]'(by lia)=b at hb;refine .inr ⟨⟨_,_,.str a,.str b,e.seqT t,e.seqT s,by rw[Am,ha];rfl,by rw[Am,hb];rfl⟩,fun x H' z=>?_⟩;obtain⟨N,O,E,g1,G,F,rfl,rfl⟩:=z;have n:=g1 _ (e.seqT t);have j:=G _ (e.seqT s);rw[Am,ha] at n;rw[Am,hb] at j;cases n;cases j;have r:=gc F (.tup [V.str a,V.str b]);have k:(as.zip bs)[i]? = some (a,b):=by rw[El];exact⟨ha,hb⟩
   refine⟨E,_,_,rfl,SqT.of ft,ht a b _ _ ?_⟩;have l:=r _ _ f;cases c:p a with
   | true =>
    rw[if_pos rfl];refine J a b _ _ ⟨_,l,AN ?_ (show 1000<sizeLine by decide),as.length - (i+1),by lia,d,rfl,put _ _ (e.trans r),?_⟩
    . rw[Ad,Ad];have:=BM (fun x:Str×Str=>p x.1) ((as.zip bs).take i);rw[AQ] at this
      lia
    . rw[ft,Ca,k,DD,Au,Au];show _=some (HO.lst (_++((([(a,b)].filter fun x:Str×Str=>p x.1).map (·.2)).map V.str)));rw[EC (by exact c)];rfl
   | false =>
    rw[if_neg Ai];refine⟨as.length - (i+1),by lia,d,rfl,e.trans r,?_⟩;rw[l,Ca,k,DD];show _=some (HO.lst (((_++([(a,b)].filter fun x:Str×Str=>p x.1)).map (·.2)).map V.str));rw[ED (by simp[c])];simp
 . have C:i=as.length:=by lia
   subst C;have v:(as.zip bs).take as.length=as.zip bs:=Bg (by rw[M];exact Ak _);rw[v] at f;exact .inl ⟨⟨_,_,e.seqT t,e.seqT s,by rw[Ad];exact Ak _⟩,A D H w e f⟩
theorem wz{l:List α}{g:α->List β}{x:α}(h:l[i]? = some x):(l.take (i+1)).flatMap g=(l.take i).flatMap g++g x:=by
 rw[Ca,h,Cd];simp
theorem aff(l:List α)(g:α->List β)(i:Nat):((l.take i).flatMap g).length<=(l.flatMap g).length:=by
 have:l.flatMap g=(l.take i).flatMap g++(l.drop i).flatMap g:=by rw[<- Cd,HR]
 rw[this,Aj];exact B9 _ _
theorem a68{l:List α}{g:α->List β}{x:α}(h:l[i]? = some x):((l.take i).flatMap g).length+(g x).length<=(l.flatMap g).length:=by
 have:=aff l g (i+1);rw[wz h,Aj] at this;exact this
end L2
namespace K56
open PySem PySem.Spec L2 Mir
abbrev a18:Stmt:=top 15
abbrev sAll:Stmt:=top 19
abbrev a5y:Stmt:=top 20
abbrev DeedS(K:Ac)(H:Hp)(t:Addr)(d:Deed):Prop:=DeedX K H (fun _ _=>True) t d
theorem DeedS.same(h:DeedS K H t d)(e:Same H H'):DeedS K H' t d:=DeedX.same h e fun _ _ z=>z
def allD(f:List Deed->List Deed)(d:Deed):List Deed:=d::(innL d).flatMap f
def allL:List Nat->List Deed->List Deed
 | [],_=>[]
 | _::bs,ds=>ds.flatMap (allD (allL bs))
inductive spAll(K:Ac)(bs:List Nat)(vs:List V)(H:Hp)(Q:VK)(E:XK):Prop
 | mk (G:Hp)(l:Addr)(ds:List Deed)(h0:vs=[.ref l])(e:Same G H)(h1:ListX K G bs l ds)(h4:(allL bs ds).length<=100)(q:∀fo us H',Same H H'->H fo=none->H' fo=some (.lst (us.map V.ref))->Paired (DeedS K G) us (allL bs ds)->Q (.ref fo) H'):spAll K bs vs H Q E
inductive AI(K:Ac)(bs:List Nat)(G H:Hp)(l fo:Addr)(ds:List Deed)(i:Nat)(σ:St)(H2:Hp):Prop
 | mk (us:List Addr)(z2 z3:Option V)(e:Same H H2)(hf:H2 fo=some (.lst (us.map V.ref)))(hp:Paired (DeedS K G) us ((ds.take i).flatMap (allD (allL bs))))(hσ:σ=[some (.ref l),some (.ref fo),z2,z3])
inductive AJ(K:Ac)(bs:List Nat)(G H:Hp)(l fo ll:Addr)(as:List Addr)(pre:List Deed)(is:List (List Deed))(v2:V)(j:Nat)(σ:St)(H2:Hp):Prop
 | mk (us:List Addr)(z3:Option V)(e:Same H H2)(hl:H2 ll=some (.lst (as.map V.ref)))(hf:H2 fo=some (.lst (us.map V.ref)))(hp:Paired (DeedS K G) us (pre++(is.take j).flatMap (allL bs)))(hσ:σ=[some (.ref l),some (.ref fo),some v2,z3])
theorem a5e(C:Con K mg w)(F:Fun K "lists_in" "lists_in" a18 f fd):FnOk P w K mg base CX0 1 f fd ["deed"] spLists:=by
 refine F.okA ["deed"] fun a A outer j H vs Q E e h nd=>?_;rcases h with⟨t,i,o,c,rfl,h,q⟩|⟨t,i,c,d,rfl,h,q⟩|⟨t,g,b,rfl,h,n1,n2,q⟩
 . refine⟨_,fw (ie (gi ib (gx gy (qv 0) fu (fun _ _=>rfl)) i7 (gn _)) (fz (gu (i8 (gj (gx gy (qv 0) fu (fun _ _=>rfl)) (gj (gx gy (qv 0) fu (fun _ _=>rfl)) ad))))) iq)
   (fz (gu (mz (gi ib (gx gy (qv 0) fu (fun _ _=>rfl)) i7 (gn _)) (i8 (gj (gx gy (qv 0) fu (fun _ _=>rfl)) ad)) (i8 ad)))),?_⟩
   refine⟨_,rfl,t,_,0,_,rfl,rfl,SqT.of h,rfl,rfl,_,rfl,iteB (fun _=>?_) (fun c=>absurd c (by decide +kernel))⟩;exact⟨_,rfl,t,_,2,_,rfl,rfl,SqT.of h,rfl,_,rfl,t,_,3,_,rfl,rfl,SqT.of h,rfl,(show 2<=sizeLine by decide),q⟩
 . refine⟨_,fw (ie (gi ib (gx gy (qv 0) fu (fun _ _=>rfl)) i7 (gn _)) (fz (gu (i8 (gj (gx gy (qv 0) fu (fun _ _=>rfl)) (gj (gx gy (qv 0) fu (fun _ _=>rfl)) ad))))) iq)
   (fz (gu (mz (gi ib (gx gy (qv 0) fu (fun _ _=>rfl)) i7 (gn _)) (i8 (gj (gx gy (qv 0) fu (fun _ _=>rfl)) ad)) (i8 ad)))),?_⟩
   refine⟨_,rfl,t,_,0,_,rfl,rfl,SqT.of h,rfl,rfl,_,rfl,iteB (fun c=>absurd c (by decide +kernel)) (fun _=>?_)⟩;refine⟨_,rfl,t,_,0,_,rfl,rfl,SqT.of h,rfl,rfl,_,rfl,iteB (fun _=>?_) (fun c=>absurd c (by decide +kernel))⟩;exact⟨_,rfl,t,_,3,_,rfl,rfl,SqT.of h,rfl,(show 1<=sizeLine by decide),q⟩
 . refine⟨_,fw (ie (gi ib (gx gy (qv 0) fu (fun _ _=>rfl)) i7 (gn _)) (fz (gu (i8 (gj (gx gy (qv 0) fu (fun _ _=>rfl)) (gj (gx gy (qv 0) fu (fun _ _=>rfl)) ad))))) iq)
   (fz (gu (mz (gi ib (gx gy (qv 0) fu (fun _ _=>rfl)) i7 (gn _)) (i8 (gj (gx gy (qv 0) fu (fun _ _=>rfl)) ad)) (i8 ad)))),?_⟩
   refine⟨_,rfl,t,_,0,_,rfl,rfl,SqT.of h,at0,rfl,_,rfl,iteB (fun c=>absurd (V.str.inj (of_decide_eq_true c)) n1) (fun _=>?_)⟩;refine⟨_,rfl,t,_,0,_,rfl,rfl,SqT.of h,at0,rfl,_,rfl,iteB (fun c=>absurd (V.str.inj (of_decide_eq_true c)) n2) (fun _=>?_)⟩;exact⟨AH _,q⟩
theorem act:FnOk P w K mg base CX0 1 f fd ["deeds"] (spAll K []) :=
 ⟨fun vs H Q E h=>by obtain⟨G,l,ds,_,_,a,_⟩:=h;exact a.elim,fun A outer s H args us vs Q E _ _ _ _ h=>by obtain⟨G,l,ds,_,_,a,_⟩:=h;exact a.elim⟩
theorem su(C:Con K mg w)(F:Fun K "all_deeds" "all_deeds" sAll f fd)(GS:FnOk P w K mg base CX0 1 gS dS ["deed"] spLists)(X:Cal K mg "lists_in" gS dS ["deed"])(GR:FnOk P w K mg base CX0 (n+1) f fd ["deeds"] (spAll K bs))(cR:Cal K mg "all_deeds" f fd ["deeds"]):FnOk P w K mg base CX0 (n+1+1) f fd ["deeds"] (spAll K (b::bs)):=by
 refine F.okA ["deeds","found","deed","inner"] fun ar A outer s0 H vs Q E hr h nd=>?_;obtain⟨G,l,ds,rfl,eG,al,D,q⟩:=h;obtain⟨ts,ac,hp,au⟩:=al;have hl:=eG _ _ ac;have ai:=hr.mono (j:=1) (by lia);refine⟨_,fw (gp 1 nd (i8 ad))
  (fw (jw AO rfl (mh (qv 0)) (jc 2 nd) (fw (ik (ke (K:=K) rfl AM BC BD kg (qv 1) (fy (qv 2) ad)))
  (fz (jw AO rfl (mh (gk GS ai X (fy (qv 2) ad))) (jc 3 nd) (fz (ik (ke (K:=K) rfl AM CG CH ot (qv 1) (gw (gk GR hr cR (fy (qv 3) ad)) ad))))))))
  (fz (gu (qv 1)))),?_⟩
 have af:=AB hp;have Y:(ds.flatMap (allD (allL bs))).length<=100:=D;refine⟨AH _,fun k r=>?_⟩;obtain⟨H1,z0,s1,k1⟩:=gr r (.lst []);rw[z0];dsimp only[gq];refine g8 (a:=tFor _ _ _) fun D1 ag aq ap=>?_;refine⟨_,rfl,l,rfl,⟨_,SqL.of (s1 _ _ hl)⟩,?_⟩;refine o9 (xs:=ts.map V.ref) (AI K bs G H l k ds) ⟨[],none,none,s1,k1,.nil,rfl⟩ (fun i σ H' _ z=>by obtain⟨us,_,_,e,_⟩:=z;exact SqL.of (e _ _ hl)) ?_ ?_
 . rintro i x σ N hx ⟨us,z2,z3,e,U,p,rfl⟩;rw[Am] at hx;obtain⟨t,ht,rfl⟩:=Bb.mp hx;obtain⟨d,hd,hX⟩:=Paired.nth hp ht;have hsz:=a68 (g:=allD (allL bs)) hd;have aa:=wz (g:=allD (allL bs)) hd;have J:allD (allL bs) d=d::(innL d).flatMap (allL bs):=rfl;rw[J,AC] at hsz;have am:=AB p;refine⟨_,rfl,(.inl ⟨rfl,_,SqL.of U⟩),_,rfl,k,_,_,rfl,rfl,U,j6 (by rw[Ad,am];lia),?_⟩;have k3:(upd N k (.lst (us.map V.ref++[.ref t]))) k=some (.lst ((us++[t]).map V.ref)):=by rw[ft,Au];rfl
   have e3:Same H (upd N k (.lst (us.map V.ref++[.ref t]))):=fun b o z=>by rw[fq (g6 z r)];exact e _ _ z
   have T:Paired (DeedS K G) (us++[t]) ((ds.take i).flatMap (allD (allL bs))++[d]):=Paired.snocP p (DeedX.same hX (Same.refl _) fun _ _ _=>trivial);generalize upd N k (.lst (us.map V.ref++[.ref t]))=H3 at k3 e3 |-;generalize us++[t]=an at k3 T;dsimp only[gq];refine⟨_,rfl,a95 hX (eG.trans e3) rfl fun y as M R=>?_⟩;have s4:=gc M (.lst (as.map V.ref));have k4:(upd H3 y (.lst (as.map V.ref))) y=some (.lst (as.map V.ref)):=ft;have ak:y≠k:=(g6 k3 M).symm;generalize upd H3 y (.lst (as.map V.ref))=H4 at s4 k4 |-;refine⟨y,rfl,⟨_,SqL.of k4⟩,?_⟩;refine o9 (xs:=as.map V.ref) (AJ K bs G H l k y as ((ds.take i).flatMap (allD (allL bs))++[d]) (innL d) (.ref t)) ⟨an,z3,e3.trans s4,k4,s4 _ _ k3,(by simpa using T),rfl⟩ (fun j σ H' _ z=>by obtain⟨_,_,_,h,_⟩:=z;exact SqL.of h) ?_ ?_
   . rintro j x σ H5 I ⟨v,y3,W,O,s,m,rfl⟩;rw[Am] at I;obtain⟨c,hc,rfl⟩:=Bb.mp I;obtain⟨a,ha,aj⟩:=Paired.nth R hc;have ao:=a68 (g:=allL bs) ha;have u:=AB m;rw[Aj,Aj] at u;have h1:[d].length=1:=rfl;refine⟨_,rfl,(.inl ⟨rfl,_,SqL.of s⟩),_,rfl,G,c,a,rfl,eG.trans W,aj,(by lia),fun ab ae H6 Z _ k6 S=>?_⟩;have L:=AB S;have ah:=Z _ _ s;refine⟨k,ab,_,_,rfl,rfl,ah,k6,ia (by rw[Ad,Ad,u,L];lia),?_⟩;refine⟨v++ae,_,fun b o z=>by rw[fq (g6 z r)];exact Z _ _ (W _ _ z),by rw[fq ak];exact Z _ _ O,by rw[ft,Au],?_,rfl⟩;rw[wz (g:=allL bs) ha,<- Cb];exact Paired.app m S
   . rintro σ H5 ⟨v,y3,W,O,s,m,rfl⟩;refine⟨v,_,_,W,s,?_,rfl⟩;have:(innL d).take (as.map V.ref).length=innL d:=Bg (by rw[Ad,AB R];exact Ak _);rw[this] at m;rw[aa,J,<- HI,<- Cb];exact m
 rintro σ N ⟨us,z2,z3,e,U,p,rfl⟩;have:ds.take (ts.map V.ref).length=ds:=Bg (by rw[Ad,af];exact Ak _);rw[this] at p;exact ag _ _ ⟨_,rfl,q k us N e r U p⟩
abbrev a1f:Stmt:=top 21
abbrev xu:Stmt:=top 22
def a24(x:Str):Bool := !decide (V.str x=V.str "field")
def j9(h:Str)(r:List Str):List Str:=match forms.lookup h with
 | some fs=>zipF a24 fs r
 | none=>[]
def wrdP:Pl->List Str
 | .row (h::r)=>j9 h r
 | .row []=>[]
 | .call x _ vs=>x::vs
def wrd:Deed->List Str
 | .plain p=>wrdP p
 | .cond r _ _=>r.drop 1
 | .loop r F P _=>r.drop 1++words (F++P)
structure TOk(xs:List Str)(F P:List (List Str)):Prop where
 f:rh F
 p:rh P
 ne:∀r∈F++P,r≠[]
 sub:∀y∈words (F++P),y∈xs
structure ROk(r:List Str):Prop where
 len:r.length=3
 sh:∀y∈r,Short y
def DOk(xs:List Str):Deed->Prop
 | .plain (.row r)=>∀y∈r,Short y
 | .plain (.call x c vs)=>Short x/\vs.length<=8/\∀y∈vs,Short y
 | .cond r _ _=>ROk r
 | .loop r F P _=>ROk r/\TOk xs F P
theorem TOk.few(h:TOk xs F P)(c:xs.length<=20){a:List Str}(hn:a.Nodup)(hs:∀y∈a,y∈words (F++P)):a.length<=20:=Ax (AW hn fun y b=>h.sub y (hs y b)) c
theorem xg:∀{rs:List (List Str)}{y:Str},(∀r∈rs,∀x∈r,Short x)->y∈words rs->Short y:=fun {rs y} h a=>by
 unfold words at a;obtain⟨l,hl,a⟩:=List.mem_flatten.mp a;obtain⟨r,b,rfl⟩:=Az.mp hl;exact h r b y (CI (CY.mp a).1)
inductive spWords(K:Ac)(vs:List V)(H:Hp)(Q:VK)(E:XK):Prop
 | mk (t:Addr)(d:Deed)(xs:List Str)(h0:vs=[.ref t])(h1:DeedS K H t d)(h2:DOk xs d)(h3:xs.length<=20)(q:∀(l:Addr) (ws:List Str) (H':Hp),Same H H'->H' l=some (.lst (ws.map V.str))->(∀y,y∈ws↔y∈wrd d)->ws.length<=30->Q (.ref l) H'):spWords K vs H Q E
theorem xq:(forms.map (·.1)).Nodup:=by decide +kernel
theorem a7s:∀x∈forms,x.2.length<=3:=by decide +kernel
theorem um:∀{l:List (Str×β)}{h:Str}{b:β},(l.map (·.1)).Nodup->(h,b)∈l->l.lookup h=some b
 | [],_,_,_,hm=>by cases hm
 | (k,c)::l,h,b,hn,hm=>by
  rw[Ar,AU] at hn;by_cases e:h=k
  . subst e;rcases Ah.mp hm with z|z
    . cases z;rw[List.lookup_cons_self]
    . exact absurd (Az.mpr ⟨_,z,rfl⟩) hn.1
  . rcases Ah.mp hm with z|z
    . cases z;exact absurd rfl e
    . rw[Cj];have:(h == k)=false:=beq_false_of_ne e;rw[this];exact um hn.2 z
theorem a9n(p:Str->Bool)(as bs:List Str):(zipF p as bs).length<=as.length:=by
 unfold zipF;rw[Ad];have:=BM (fun x:Str×Str=>p x.1) (as.zip bs);rw[DF] at this
 lia
theorem a2x(C:Con K mg w)(F:Fun K "words_of" "words_of" a5y f fd)(GN:FnOk P w K mg base CX0 1 gN dN ["telling"] (a03 K))(Y:Cal K mg "names_of" gN dN ["telling"]):FnOk P w K mg base CX0 2 f fd ["deed"] (spWords K):=by
 refine F.okA ["deed"] fun ai A outer s0 H vs Q E hr h nd=>?_;obtain⟨t,d,xs,rfl,hX,hok,R,q⟩:=h;obtain⟨aF,m,gF,kF,nF,rF⟩:=C.forms;refine⟨_,fw (ie (gi ib (gx gy (qv 0) fu (fun _ _=>rfl)) i7 (gn _)) (fz (gu (gh ky (i8 (gj (gx gy (qv 0) fu (fun _ _=>rfl)) ad)) (i6 ji rfl C.list Bh (gj (gx gy (qv 0) fu (fun _ _=>rfl)) ad))))) iq)
  (fw (ie (gi ib (gx gy (qv 0) fu (fun _ _=>rfl)) i7 (gn _)) (fz (gu (i6 ji rfl C.list Bh (gj (j8 og (gx gy (qv 0) fu (fun _ _=>rfl)) (j7 fu) jn) ad)))) iq)
  (fw (ie (gi ib (gx gy (qv 0) fu (fun _ _=>rfl)) i7 (gn _)) (fz (gu (gh ky (i6 ji rfl C.list Bh (gj (j8 og (gx gy (qv 0) fu (fun _ _=>rfl)) (j7 fu) jn) ad)) (gk GN hr Y (gj (gx gy (qv 0) fu (fun _ _=>rfl)) ad))))) iq)
  (fz (gu (a7r (K:=K) rfl ["sort","word"] [] (ac7 rfl C.zip (gj (acw (K:=K) (w:=w) rfl rfl (qe_g gF) (gx gy (qv 0) fu (fun _ _=>rfl)) (fun _ _=>rfl)) (gj (j8 og (qv 0) (j7 fu) jn) ad))) (fun _ _ _ _=>(zr (gi ri (qv 0) i7 (gn _)))) (fun _ _ _ _=>(qv 1))))))),?_⟩
 cases hX with
 | plain p h1 h2 =>
  cases p with
  | call x c vs =>
   obtain⟨v,j,Z⟩:=h1;obtain⟨ox,ol,ov⟩:=hok;refine⟨_,rfl,t,_,0,_,rfl,rfl,SqT.of j,rfl,rfl,_,rfl,iteB (fun _=>?_) (fun c=>absurd c (by decide +kernel))⟩;refine⟨_,rfl,t,_,1,_,rfl,rfl,SqT.of j,rfl,(show 1<=sizeLine by decide),fun l1 aa=>?_⟩;obtain⟨O,z0,S,k1⟩:=gr aa (.lst [.str x]);rw[z0];refine⟨_,rfl,t,_,3,_,rfl,rfl,SqT.of (S _ _ j),rfl,v,_,rfl,.inr (SqT.of (S _ _ Z)),fun l2 ab=>?_⟩;have G:=gc ab (.lst (vs.map V.str));refine⟨l1,l2,_,_,rfl,rfl,G _ _ k1,ft,ia (by rw[Ad];show 1+_<=1000;lia),fun l3 X=>?_⟩;have s3:=gc X (.lst ([V.str x]++vs.map V.str));exact q l3 (x::vs) _ ((S.trans G).trans s3) ft (fun y=>Iff.rfl) (by rw[AC];lia)
  | row r =>
   obtain⟨⟨h,g,fs,rfl,u,hl⟩,okr⟩:=h2;have e:H t=some (.tup (.str h::g.map V.str)):=h1;obtain⟨n1,n2,n3⟩:=xw _ u;have ah:fs.length<=3:=a7s _ u;refine⟨_,rfl,t,_,0,_,rfl,rfl,SqT.of e,at0,rfl,_,rfl,iteB (fun c=>absurd (V.str.inj (of_decide_eq_true c)) n3) (fun _=>?_)⟩;refine⟨_,rfl,t,_,0,_,rfl,rfl,SqT.of e,at0,rfl,_,rfl,iteB (fun c=>absurd (V.str.inj (of_decide_eq_true c)) n1) (fun _=>?_)⟩;refine⟨_,rfl,t,_,0,_,rfl,rfl,SqT.of e,at0,rfl,_,rfl,iteB (fun c=>absurd (V.str.inj (of_decide_eq_true c)) n2) (fun _=>?_)⟩;obtain⟨n,ac,M⟩:∃n,(m.map fun x=>(x.1,V.ref x.2)).lookup h=some (.ref n)/\∀H',SqT K H' n (fs.map V.str):=by
    have hm:h∈m.map (·.1):=by rw[nF];exact Az.mpr ⟨_,u,rfl⟩
    obtain⟨⟨h',n⟩,I,rfl⟩:=Az.mp hm;refine⟨n,um ?_ (Az.mpr ⟨_,I,rfl⟩),rF _ _ _ I u⟩;rw[Bd];show (m.map (·.1)).Nodup;rw[nF];exact xq
   refine⟨_,rfl,t,_,0,_,rfl,rfl,SqT.of e,at0,aF,_,h,_,rfl,rfl,kF,ac,?_⟩;refine⟨_,rfl,_,rfl,t,_,rfl,SqT.of e,fun p1 O L k1=>?_⟩;have hc:cutV (V.str h::g.map V.str) (some 1) none=g.map V.str:=by
    have:=vz (r:=h::g) (k:=1);simpa using this
   rw[show cutV (V.str h::g.map V.str) (some (1:Int)) none=g.map V.str from hc] at k1;refine⟨n,p1,_,_,rfl,M _,k1,?_⟩;refine a82 fs g a24 (M _) k1 hl (by lia) (fun a b H2 Q' W=>⟨_,rfl,rfl,_,rfl,W⟩) (fun a b H2 Q' W=>⟨_,rfl,W⟩) (fun D H' hD e' af=>?_);refine q D _ H' (L.trans e') af (fun y=>?_) (Ax (a9n _ _ _) (by lia));show _↔y∈j9 h g;unfold j9;rw[um xq u]
 | cond c i o r a b h hc okr hi ho =>
  refine⟨_,rfl,t,_,0,_,rfl,rfl,SqT.of h,rfl,rfl,_,rfl,iteB (fun c=>absurd c (by decide +kernel)) (fun _=>?_)⟩;refine⟨_,rfl,t,_,0,_,rfl,rfl,SqT.of h,rfl,rfl,_,rfl,iteB (fun _=>?_) (fun c=>absurd c (by decide +kernel))⟩;have N:r.length=3:=ROk.len hok;refine⟨_,rfl,t,_,1,_,rfl,rfl,SqT.of h,rfl,_,rfl,c,_,rfl,SqT.of hc,fun p1 O L k1=>?_⟩;rw[show cutV (r.map V.str) (some (1:Int)) none=(r.drop 1).map V.str from vz (r:=r) (k:=1)] at k1;refine⟨p1,_,rfl,.inr k1,fun l hl=>?_⟩;exact q l (r.drop 1) _ (L.trans (gc hl _)) ft (fun y=>Iff.rfl) (by rw[Bc];lia)
 | loop c td i fa pa r F' P' a h hc okr htd hF hP okF okP lF lP hi =>
  obtain⟨U,s⟩:=hok;have N:r.length=3:=ROk.len U;refine⟨_,rfl,t,_,0,_,rfl,rfl,SqT.of h,rfl,rfl,_,rfl,iteB (fun c=>absurd c (by decide +kernel)) (fun _=>?_)⟩;refine⟨_,rfl,t,_,0,_,rfl,rfl,SqT.of h,rfl,rfl,_,rfl,iteB (fun c=>absurd c (by decide +kernel)) (fun _=>?_)⟩;refine⟨_,rfl,t,_,0,_,rfl,rfl,SqT.of h,rfl,rfl,_,rfl,iteB (fun _=>?_) (fun c=>absurd c (by decide +kernel))⟩;refine⟨_,rfl,t,_,1,_,rfl,rfl,SqT.of h,rfl,_,rfl,c,_,rfl,SqT.of hc,fun p1 O L k1=>?_⟩;rw[show cutV (r.map V.str) (some (1:Int)) none=(r.drop 1).map V.str from vz (r:=r) (k:=1)] at k1;refine⟨p1,_,rfl,.inr k1,fun l hl=>?_⟩;obtain⟨H2,z1,G,k2⟩:=gr hl (.lst ((r.drop 1).map V.str));rw[z1];have J:=L.trans G;refine⟨_,rfl,t,_,2,_,rfl,rfl,SqT.of (J _ _ h),rfl,td,F',P',rfl,⟨[fa,pa],SqT.of (J _ _ htd),.cons (hF.same J) (.cons (hP.same J) .nil)⟩,s.f,s.p,s.ne,fun ss hn hs=>AN (s.few R hn hs) (by decide),fun p zs H3 hp e3 k3 T z aj=>?_⟩;have ag:=s.few R T fun y hy=>(z y).mp hy;refine⟨l,p,_,_,rfl,rfl,e3 _ _ k2,k3,ia (by rw[Ad,Ad,Bc];lia),fun l4 ae=>?_⟩;have s4:=gc ae (.lst ((r.drop 1).map V.str++zs.map V.str));refine q l4 (r.drop 1++zs) _ ((J.trans e3).trans s4) (by rw[ft,Au]) (fun y=>?_) (by rw[Aj,Bc];lia);show _↔y∈r.drop 1++words (F'++P');rw[Ap,Ap,z y]
def allW(bs:List Nat)(p:Prc):List Str:=p.ps++[p.res]++words (p.F1++p.P1)++words (p.F2++p.P2)++(allL bs p.body).flatMap wrd
structure PrcOk(bs:List Nat)(xs:List Str)(p:Prc):Prop where
 ps:p.ps.length<=8/\∀y∈p.ps,Short y
 res:Short p.res
 t1:TOk xs p.F1 p.P1
 t2:TOk xs p.F2 p.P2
 ds:∀d∈allL bs p.body,DOk xs d
 few:(allL bs p.body).length<=30
 len:xs.length<=20
 names:∀y∈allW bs p,i5 y=true->y∈xs
theorem aa4(c:y∈j9 h r):y∈r:=by
 unfold j9 at c;cases e:forms.lookup h with
 | none=>rw[e] at c;cases c
 | some fs =>
  rw[e] at c;obtain⟨⟨a,b⟩,d,rfl⟩:=Az.mp c;exact (Fc (CY.mp d).1).2
theorem DOk.short(h:DOk xs d)(e:y∈wrd d):Short y:=by
 cases d with
 | plain p =>
  cases p with
  | row r =>
   cases r with
   | nil=>cases e
   | cons h' r=>exact h y (Al _ (aa4 e))
  | call x c vs =>
   obtain⟨g,_,k⟩:=h;rcases Ah.mp e with rfl|z
   . exact g
   . exact k y z
 | cond r a b=>exact ROk.sh h y (CI e)
 | loop r F P a =>
  obtain⟨g,i⟩:=h;rcases Ap.mp e with z|z
  . exact g.sh y (CI z)
  . refine xg (fun r j=>?_) z;rcases Ap.mp j with z|z
    . exact (i.f.2 r z).2
    . exact (i.p.2 r z).2
theorem TOk.short(a:TOk xs F P)(c:y∈words (F++P)):Short y:=by
 refine xg (fun r b=>?_) c;rcases Ap.mp b with z|z
 . exact (a.f.2 r z).2
 . exact (a.p.2 r z).2
theorem a52(h:PrcOk bs xs p)(a:y∈allW bs p):Short y:=by
 unfold allW at a;simp only[Ap,Ao] at a;rcases a with (((z|z)|z)|z)|z
 . exact h.ps.2 y z
 . rw[z];exact h.res
 . exact h.t1.short z
 . exact h.t2.short z
 . obtain⟨d,hd,a⟩:=Bt.mp z;exact (h.ds d hd).short a
inductive spNamesIn(K:Ac)(bs:List Nat)(vs:List V)(H:Hp)(Q:VK)(E:XK):Prop
 | mk (G:Hp)(t:Addr)(p:Prc)(xs:List Str)(h0:vs=[.ref t])(e:Same G H)(h1:PrcAt K G bs t p)(h2:PrcOk bs xs p)(q:∀(l:Addr) (zs:List Str) (H':Hp),Same H H'->H l=none->H' l=some (.lst (zs.map V.str))->zs.Nodup->Ea zs=true->(∀y,y∈zs↔i5 y=true/\y∈allW bs p)->Q (.ref l) H'):spNamesIn K bs vs H Q E
inductive NI(H:Hp)(t lo fo:Addr)(us:List Addr)(ds:List Deed)(pre:List Str)(i:Nat)(σ:St)(H2:Hp):Prop
 | mk (ws:List Str)(z2:Option V)(e:Same H H2)(hl:H2 lo=some (.lst (us.map V.ref)))(hf:H2 fo=some (.lst (ws.map V.str)))(hm:∀y,y∈ws↔y∈pre++(ds.take i).flatMap wrd)(hw:ws.length<=60+30*i)(hσ:σ=[some (.ref t),some (.ref fo),z2])
theorem a5m(aI:1<=n)(C:Con K mg w)(F:Fun K "names_in" "names_in" a1f f fd)(GN:FnOk P w K mg base CX0 1 gN dN ["telling"] (a03 K))(Z:Cal K mg "names_of" gN dN ["telling"])(GA:FnOk P w K mg base CX0 (n+1) gA dA ["deeds"] (spAll K bs))(cA:Cal K mg "all_deeds" gA dA ["deeds"])(GW:FnOk P w K mg base CX0 2 gW dW ["deed"] (spWords K))(cW:Cal K mg "words_of" gW dW ["deed"])(GI:FnOk P w K mg base CX0 1 gI dI ["text"] (spB1 i5))(cI:Cal K mg "is_name" gI dI ["text"]):FnOk P w K mg base CX0 (n+1+1) f fd ["procedure"] (spNamesIn K bs):=by
 refine F.okA ["procedure","words","deed"] fun aJ A outer s0 H vs Q E hr h nd=>?_;obtain⟨G,t,p,xs,rfl,eG,⟨pt,t1,t2,f1,p1,f2,p2,bd,x⟩,ok,q⟩:=h;have Y:=hr.mono (j:=1) (by lia);have aE:=hr.mono (j:=2) (by lia);refine⟨_,fw (gp 1 nd (gh ky (gh ky (gh ky (i6 ji rfl C.list Bh (gj (gx gy (qv 0) fu (fun _ _=>rfl)) ad)) (i8 (gj (gx gy (qv 0) fu (fun _ _=>rfl)) ad))) (gk GN Y Z (gj (gx gy (qv 0) fu (fun _ _=>rfl)) ad))) (gk GN Y Z (gj (gx gy (qv 0) fu (fun _ _=>rfl)) ad))))
  (fw (jw AO rfl (mh (gk GA hr cA (gj (gx gy (qv 0) fu (fun _ _=>rfl)) ad))) (jc 2 nd) (fz (ik (ke (K:=K) rfl AM CG CH ot (qv 1) (gw (gk GW aE cW (fy (qv 2) ad)) ad)))))
  (fz (gu (ii (rp rfl) rfl C.sorted Ew (gw (i6 (a23 rfl) rfl C.set HP (jf (qp (mh (qv 1)) (fun _ _ _ _=>(zr (a29 (gk GI Y cI (fy (qv 0) ad))))) (fun _ _ _ _=>(qv 0))) ad)) ad))))),?_⟩
 have tp:=eG _ _ x.tup;refine⟨_,rfl,t,_,1,_,rfl,rfl,SqT.of tp,rfl,pt,_,rfl,.inr (SqT.of (eG _ _ x.pt)),fun l1 ac=>?_⟩;obtain⟨H1,z0,s1,k1⟩:=gr ac (.lst (p.ps.map V.str));rw[z0];refine⟨_,rfl,t,_,2,_,rfl,rfl,SqT.of (s1 _ _ tp),rfl,(show 1<=sizeLine by decide),fun l2 ae=>?_⟩;obtain⟨H2,z1,v,k2⟩:=gr ae (.lst [.str p.res]);rw[z1];have s2:=s1.trans v;have hps:=ok.ps.1;refine⟨l1,l2,_,_,rfl,rfl,v _ _ k1,k2,ia (by rw[Ad];show _+1<=1000;lia),fun l3 ah=>?_⟩;have S:=gc ah (.lst (p.ps.map V.str++[.str p.res]));have k3:(upd H2 l3 (.lst (p.ps.map V.str++[.str p.res]))) l3=some (.lst ((p.ps++[p.res]).map V.str)):=by rw[ft,Au];rfl
 generalize upd H2 l3 (.lst (p.ps.map V.str++[.str p.res]))=H3 at S k3 |-;have s3:=s2.trans S;have g3:=eG.trans s3;refine⟨_,rfl,t,_,3,_,rfl,rfl,SqT.of (s3 _ _ tp),rfl,t1,p.F1,p.P1,rfl,⟨[f1,p1],SqT.of (g3 _ _ x.t1),.cons (x.f1.same g3) (.cons (x.p1.same g3) .nil)⟩,ok.t1.f,ok.t1.p,ok.t1.ne,fun ss hn hs=>AN (ok.t1.few ok.len hn hs) (by decide),fun q4 c H4 aq T k4 af O _=>?_⟩;have ax:=ok.t1.few ok.len af fun y r=>(O y).mp r;have e4:=s3.trans T;refine⟨l3,q4,_,_,rfl,rfl,T _ _ k3,k4,ia (by rw[Ad,Ad,Aj];show _+1+_<=1000;lia),fun l5 aj=>?_⟩;have W:=gc aj (.lst ((p.ps++[p.res]).map V.str++c.map V.str));have k5:(upd H4 l5 (.lst ((p.ps++[p.res]).map V.str++c.map V.str))) l5=some (.lst ((p.ps++[p.res]++c).map V.str)):=by rw[ft,Au (l₁:=p.ps++[p.res])]
 generalize upd H4 l5 (.lst ((p.ps++[p.res]).map V.str++c.map V.str))=H5 at W k5 |-;have s5:=e4.trans W;have g5:=eG.trans s5;refine⟨_,rfl,t,_,4,_,rfl,rfl,SqT.of (s5 _ _ tp),rfl,t2,p.F2,p.P2,rfl,⟨[f2,p2],SqT.of (g5 _ _ x.t2),.cons (x.f2.same g5) (.cons (x.p2.same g5) .nil)⟩,ok.t2.f,ok.t2.p,ok.t2.ne,fun ss hn hs=>AN (ok.t2.few ok.len hn hs) (by decide),fun q6 R H6 az N k6 aa X _=>?_⟩;have av:=ok.t2.few ok.len aa fun y r=>(X y).mp r;have e6:=s5.trans N;refine⟨l5,q6,_,_,rfl,rfl,N _ _ k5,k6,ia (by rw[Ad,Ad,Aj,Aj];show _+1+_+_<=1000;lia),fun L al=>?_⟩;have U:=gc al (.lst ((p.ps++[p.res]++c).map V.str++R.map V.str));have k7:(upd H6 L (.lst ((p.ps++[p.res]++c).map V.str++R.map V.str))) L=some (.lst ((p.ps++[p.res]++c++R).map V.str)):=by rw[ft,Au (l₁:=p.ps++[p.res]++c)]
 have au:H L=none:=e6.free al;generalize upd H6 L (.lst ((p.ps++[p.res]++c).map V.str++R.map V.str))=H7 at U k7 |-;have s7:=e6.trans U;have J:∀y,y∈p.ps++[p.res]++c++R↔y∈p.ps++[p.res]++words (p.F1++p.P1)++words (p.F2++p.P2):=fun y=>by
  simp only[Ap,O y,X y]
 have ag:(p.ps++[p.res]++c++R).length<=60:=by
  rw[Aj,Aj,Aj];show _+1+_+_<=60;lia
 generalize p.ps++[p.res]++c++R=w0 at k7 J ag;clear O X af aa ax av k6 k5 k4 k3 k2 k1 U W S v s2 s3 s5 e4 e6 g3 g5 T N ac ae ah aj aq az s1;dsimp only[gq];refine g8 (a:=tFor _ _ _) fun D1 ak aA ap=>?_;refine⟨_,rfl,t,_,5,_,rfl,rfl,SqT.of (s7 _ _ tp),rfl,G,bd,p.body,rfl,eG.trans s7,x.body,Ax ok.few (by decide),fun lo us H8 e8 ay k8 ab=>?_⟩;have ar:lo≠L:=(g6 k7 ay).symm;have ao:=AB ab;have aF:=ok.few;refine⟨lo,rfl,⟨_,SqL.of k8⟩,?_⟩;refine o9 (xs:=us.map V.ref) (NI H t lo L us (allL bs p.body) (p.ps++[p.res]++words (p.F1++p.P1)++words (p.F2++p.P2))) ⟨w0,none,s7.trans e8,k8,e8 _ _ k7,fun y=>by rw[J y];simp,by lia,rfl⟩ (fun i σ H' _ z=>by obtain⟨_,_,_,h,_⟩:=z;exact SqL.of h) ?_ ?_
 . rintro i y σ H9 r ⟨ws,z2,e9,ai,m,I,am,rfl⟩;rw[Am] at r;obtain⟨u,hu,rfl⟩:=Bb.mp r;obtain⟨d,hd,hX⟩:=Paired.nth ab hu;have aG:i<30:=by have:=(Aw.mp hd).1;lia
   refine⟨_,rfl,(.inl ⟨rfl,_,SqL.of m⟩),_,rfl,u,d,xs,rfl,DeedS.same hX (eG.trans e9),ok.ds d (AE hd),ok.len,fun lw vs Ha ea ka aw aH=>?_⟩;have aB:=ea _ _ m;refine⟨L,lw,_,_,rfl,rfl,aB,ka,ia (by rw[Ad,Ad];lia),?_⟩;refine⟨ws++vs,_,fun b o z=>by rw[fq (g6 z au)];exact ea _ _ (e9 _ _ z),by rw[fq ar];exact ea _ _ ai,by rw[ft,Au],fun y=>?_,by rw[Aj];lia,rfl⟩;rw[wz (g:=wrd) hd,Ap,<- Cb,Ap,I y,aw y]
 rintro σ H9 ⟨ws,z2,e9,ai,m,I,am,rfl⟩;rw[Ad,ao,BP] at I;rw[Ad,ao] at am;have e:∀y,y∈ws↔y∈allW bs p:=I;refine ak _ _ ?_;clear ak aA ap;refine⟨_,rfl,L,rfl,⟨_,SqL.of m⟩,?_⟩;refine yi ws i5 pk (SqL.of m) (by lia) (fun y r H2 e2 Q' q'=>⟨_,rfl,y,rfl,a52 ok ((e y).mp r),fun H3 e3=>⟨_,rfl,q' H3 e3⟩⟩) (fun y H2 Q' q'=>⟨_,rfl,q'⟩) (fun D Ha hD ea kD=>?_);have hfl:=BM i5 ws;have aC:ws.length<=1000:=by lia
 refine⟨D,_,rfl,SqL.of kD,?_,fun ps ss M s=>?_⟩
 . exact AN (Gv (Ax hfl aC)) (by decide)
 have an:∀y∈ss,y∈xs:=fun y r=>by
  obtain⟨h1,h2⟩:=CY.mp ((s.mem y).mp r);exact ok.names y ((e y).mp h1) h2
 have aK:ss.length<=20:=Ax (AW s.nodup an) ok.len;refine⟨ps,ss,rfl,ft,(by lia),fun l zs hl k hs=>?_⟩;have aD:=(gc M _).free hl;refine q l zs _ (((e9.trans ea).trans (gc M _)).trans (gc hl _)) ((e9.trans ea).free aD) ft (k.nodup_iff.mpr s.nodup) hs fun y=>?_;rw[k.mem_iff,s.mem y,CY,e y];exact And.comm
end K56
namespace L2
open PySem PySem.Spec
theorem a3w(ys zs:List V)(hz:zs.length=m)(hm:0<m):cutV (ys++zs) none (some (-(m:Int)))=ys:=by
 unfold cutV;rw[HT.sIx_none,CO,Es];have:HT.sIx (ys++zs).length (ys++zs).length (some (-(m:Int)))=ys.length:=by
  show (if -(m:Int)<0 then (-(m:Int)+((ys++zs).length:Int)).toNat else _)=_;rw[if_pos (by lia),Aj]
  lia
 rw[this,List.take_left]
end L2
namespace K56
open PySem PySem.Spec L2 Mir
abbrev a41:Stmt:=top 24
abbrev a7z:Stmt:=top 25
theorem pick{l:List Addr}(h:k<l.length):∃b,l[k]? = some b/\atI (l.map V.ref) (k:Int)=some (.ref b)/\b∈l :=
 ⟨l[k],Ag h,jg (by rw[Am,Ag h];rfl),C0 _⟩
abbrev Pre:=List (Nat×Nat)
def flat:Pre->List Int
 | []=>[]
 | (a,b)::p=>(a:Int)::(b:Int)::flat p
theorem m4:∀p:Pre,(flat p).length=2*p.length
 | []=>rfl
 | (a,b)::p=>by show (flat p).length+1+1=_;rw[m4 p,AC];lia
theorem xy:∀p q:Pre,flat (p++q)=flat p++flat q
 | [],_=>rfl
 | (a,b)::p,q=>by show _::_::flat (p++q)=_;rw[xy p q];rfl
theorem a3y:∀{p:Pre}{z:List Int}{i a b:Nat},p[i]? = some (a,b)->(flat p++z)[2*i]? = some (a:Int)/\(flat p++z)[2*i+1]? = some (b:Int)
 | [],_,_,_,_,h=>by cases h
 | (x,y)::p,z,0,a,b,h=>by cases h;exact⟨rfl,rfl⟩
 | (x,y)::p,z,i+1,a,b,h=>a3y (p:=p) (i:=i) h
inductive Side(H:Hp)(t:Addr)(s:Nat)(m:Addr):Prop
 | cond (i o:Addr)(c:V)(h:H t=some (.tup [.str "if",c,.ref i,.ref o]))(hs:(s=0/\m=i)\/(s=1/\m=o))
 | loop (c d:V)(h:H t=some (.tup [.str "while",c,d,.ref m]))(hs:s=0)
def LFrom(H:Hp):Addr->Pre->Addr->Prop
 | l,[],l'=>l=l'
 | l,(k,s)::p,l'=>∃(ts:List Addr) (t m:Addr),H l=some (.lst (ts.map V.ref))/\ts[k]? = some t/\Side H t s m/\LFrom H m p l'
theorem Side.same(h:Side H t s m)(e:Same H H'):Side H' t s m:=by
 rcases h with⟨i,o,c,h,hs⟩|⟨c,d,h,hs⟩
 . exact .cond i o c (e _ _ h) hs
 . exact .loop c d (e _ _ h) hs
theorem LFrom.same(e:Same H H'):∀{p:Pre}{l a:Addr},LFrom H l p a->LFrom H' l p a
 | [],_,_,h=>h
 | (k,s)::p,l,a,h=>by
  obtain⟨ts,t,m,c,b,f,d⟩:=h;exact⟨ts,t,m,e _ _ c,b,f.same e,LFrom.same e d⟩
theorem LFrom.app:∀{p q:Pre}{l m a:Addr},LFrom H l p m->LFrom H m q a->LFrom H l (p++q) a
 | [],_,_,_,_,h,g=>by cases h;exact g
 | (k,s)::p,q,l,m,a,h,g=>by
  obtain⟨ts,t,x,c,b,e,d⟩:=h;exact⟨ts,t,x,c,b,e,LFrom.app d g⟩
inductive spListOf(K:Ac)(vs:List V)(H:Hp)(Q:VK)(E:XK):Prop
 | mk (bd pt l:Addr)(p:Pre)(k:Int)(h0:vs=[.ref bd,.ref pt])(h1:SqT K H pt ((flat p++[k]).map V.int))(h2:LFrom H bd p l)(h3:p.length<=100)(q:∀H',Same H H'->Q (.ref l) H'):spListOf K vs H Q E
inductive spFound(K:Ac)(vs:List V)(H:Hp)(Q:VK)(E:XK):Prop
 | mk (bd pt l:Addr)(p:Pre)(k:Nat)(ts:List Addr)(h0:vs=[.ref bd,.ref pt])(h1:SqT K H pt ((flat p++[(k:Int)]).map V.int))(h2:LFrom H bd p l)(h3:p.length<=100)(h4:H l=some (.lst (ts.map V.ref)))(q1:∀t H',ts[k]? = some t->Same H H'->Q (.ref t) H')(q2:∀H',ts[k]? = none->Same H H'->Q .non H'):spFound K vs H Q E
theorem a8o(C:Con K mg w)(F:Fun K "list_of" "list_of" a41 f fd)(GI:FnOk P w K mg base CX0 1 gI Z ["deed"] spLists)(M:Cal K mg "lists_in" gI Z ["deed"]):FnOk P w K mg base CX0 2 f fd ["body","path"] (spListOf K):=by
 refine F.okA ["body","path","deeds","place"] fun Y A outer s0 H vs Q E U h nd=>?_;obtain⟨bd,pt,l,p,k,rfl,hpt,hl,hp,q⟩:=h;refine⟨_,fw (gp 2 nd (qv 0))
  (fw (jw AO rfl (a6j rfl C.range (gs (jb (gh a6y (ii ld rfl C.len AV (fy (qv 1) ad)) fu) (gs ad)))) (jc 3 nd) (fz (gp 2 nd (gx l8 (gk GI U M (gj (gx l8 (qv 2) (gx gy (qv 1) (qv 3) (fun _ _=>rfl)) (fun _ _=>rfl)) ad)) (gx gy (qv 1) (gh ij (qv 3) fu) (fun _ _=>rfl)) (fun _ _=>rfl)))))
  (fz (gu (qv 2)))),?_⟩
 have T:(((flat p++[k]).map V.int).length:Int)=2*(p.length:Int)+1:=by rw[Ad,Aj,m4];simp
 refine⟨_,rfl,?_⟩;dsimp only[gq];refine g8 (a:=tFor _ _ _) fun D1 O X W=>?_;refine⟨_,rfl,pt,_,rfl,.inr hpt,_,_,rfl,rfl,0,_,rfl,⟨by decide,by decide,by lia,by lia⟩,?_⟩;rw[show (((((flat p++[k]).map V.int).length:Int) - 1 - 0+1) / 2).toNat=p.length by lia];refine a5i (fun i σ r=>Same H r/\∃(m:Addr) (N:Option V),LFrom r m (p.drop i) l/\σ=[some (.ref bd),some (.ref pt),some (.ref m),N]) ⟨Same.refl _,bd,none,hl,rfl⟩ ?_ ?_
 . rintro i σ r hi ⟨I,m,N,hm,rfl⟩;obtain⟨⟨a,b⟩,v⟩:∃x,p[i]? = some x:=⟨_,Ag hi⟩
   rw[Ge hi,(Aw.mp v).2] at hm;obtain⟨ts,t,x,y,R,J,L⟩:=hm;obtain⟨ha,hb⟩:=a3y (z:=[k]) v;have i1:(0:Int)+(i:Int)*2=((2*i:Nat):Int):=by lia
   have i2:((2*i:Nat):Int)+1=((2*i+1:Nat):Int):=by lia
   rw[i1];have G:atI ((flat p++[k]).map V.int) ((2*i:Nat):Int)=some (.int (a:Int)):=jg (by rw[Am,ha];rfl);have at2:atI (ts.map V.ref) (a:Int)=some (.ref t):=jg (by rw[Am,R];rfl);have D:atI ((flat p++[k]).map V.int) (((2*i:Nat):Int)+1)=some (.int (b:Int)):=by rw[i2];exact jg (by rw[Am,hb];rfl)
   have e:=I.seqT hpt;have fin:∀{u:Addr} {us:List V},r u=none->atI us (b:Int)=some (.ref x)->Same r (upd r u (.lst us))/\LFrom (upd r u (.lst us)) x (p.drop (i+1)) l:=fun j _=>⟨gc j _,L.same (gc j _)⟩
   rcases J with⟨S,o,c,h,hs⟩|⟨c,d,h,hs⟩
   . have n:atI [V.ref S,V.ref o] (b:Int)=some (.ref x):=by rcases hs with⟨rfl,rfl⟩|⟨rfl,rfl⟩<;>rfl
     refine⟨_,rfl,_,rfl,_,rfl,pt,_,_,_,rfl,rfl,e,G,m,_,_,_,rfl,rfl,SqL.of y,at2,.cond t S o c rfl h fun u j=>?_⟩;obtain⟨s,g⟩:=fin j n;exact⟨_,rfl,_,rfl,_,_,rfl,rfl,pt,_,_,_,rfl,rfl,s.seqT e,D,u,_,_,_,rfl,rfl,SqL.of ft,n,I.trans s,x,_,g,rfl⟩
   . have n:atI [V.ref x] (b:Int)=some (.ref x):=by subst hs;rfl
     refine⟨_,rfl,_,rfl,_,rfl,pt,_,_,_,rfl,rfl,e,G,m,_,_,_,rfl,rfl,SqL.of y,at2,.loop t x c d rfl h fun u j=>?_⟩;obtain⟨s,g⟩:=fin j n;exact⟨_,rfl,_,rfl,_,_,rfl,rfl,pt,_,_,_,rfl,rfl,s.seqT e,D,u,_,_,_,rfl,rfl,SqL.of ft,n,I.trans s,x,_,g,rfl⟩
 rintro σ r ⟨I,m,N,hm,rfl⟩;rw[Jn] at hm;cases hm;exact O _ _ ⟨_,rfl,q r I⟩
theorem a9f(C:Con K mg w)(F:Fun K "found_at" "found_at" a7z f fd)(y:FnOk P w K mg base CX0 2 v z ["body","path"] (spListOf K))(m:Cal K mg "list_of" v z ["body","path"]):FnOk P w K mg base CX0 3 f fd ["body","path"] (spFound K):=by
 refine F.okA ["body","path","deeds"] fun u A outer D H vs Q E r h nd=>?_;obtain⟨bd,pt,l,p,k,ts,rfl,hpt,hl,hp,n,x,s⟩:=h;refine⟨_,fw (gp 2 nd (gk y r m (fy (qv 0) (fy (qv 1) ad))))
  (fz (gu (mz (gi qa (gx gy (qv 1) (jv jl fu) (fun _ _=>rfl)) (ii ld rfl C.len AV (fy (qv 2) ad)) (gn _)) (gx l8 (qv 2) (gx gy (qv 1) (jv jl fu) (fun _ _=>rfl)) (fun _ _=>rfl)) oq))),?_⟩
 refine⟨_,rfl,_,rfl,bd,pt,l,p,k,rfl,hpt,hl,hp,fun q d=>?_⟩;have a:=d.seqT hpt;rw[Au] at a;have b:=d _ _ n;refine⟨_,rfl,_,rfl,pt,_,_,_,rfl,rfl,a,jd,_,rfl,l,_,rfl,.inl (SqL.of b),_,_,rfl,rfl,_,rfl,iteB (fun c=>?_) (fun c=>?_)⟩
 . have g:(k:Int)<((ts.map V.ref).length:Int):=of_decide_eq_true c;have e:k<ts.length:=by rw[Ad] at g;lia
   obtain⟨t,o,j,_⟩:=pick e;exact⟨_,rfl,_,rfl,_,rfl,pt,_,_,_,rfl,rfl,a,jd,l,_,_,_,rfl,rfl,SqL.of b,j,x t q o d⟩
 . have g:¬ (k:Int)<((ts.map V.ref).length:Int):=of_decide_eq_false c;have e:ts.length<=k:=by rw[Ad] at g;lia
   exact s q (Bu e) d
end K56
namespace L2
open PySem PySem.Spec
theorem pf(xs:List V)(rs:List α)(R:Addr->Hp->V->β->Prop)(f:α->β)(j:JSeq J S xs)(h0:S g)(hz:xs.length<=1000)(hl:rs.length=xs.length)(C:∀D H H' y r,R D H y r->jq D H H'->R D H' y r)(P:∀(D:Addr),g D=none->∀(i:Nat) (x:V) (r:α),xs[i]? = some x->rs[i]? = some r->∀k,Same g k->k D≠none->∀F:VK,(∀y t,Same k t->R D t y (f r)->F y t)->O (some x::j5 σ N) k F)(M:∀D H' ys,g D=none->Same g H'->H' D=some (.lst ys)->Paired (fun y r=>R D H' y r) ys (rs.map f)->Q (.ref D) H'):qy J g σ N tYes O Q:=by
 intro D n;have put:∀H ys,Same g H->Same g (upd H D (.lst ys)):=fun H ys e b u q=>by rw[fq (g6 q n)];exact e b u q
 refine⟨fun i m H=>i<=xs.length/\m=xs.length - i/\Same g H/\∃ys:List V,H D=some (.lst ys)/\Paired (fun y r=>R D H y r) ys ((rs.take i).map f),⟨xs.length,AH _,rfl,put _ _ (Same.refl _),[],ft,by simpa using Paired.nil⟩,?_⟩;rintro i m H ⟨hi,rfl,e,ys,l,hp⟩;have p:=j.stay _ _ h0 e;by_cases c:i<xs.length
 . refine .inr ⟨j.go i H p c,fun x H' A=>?_⟩;obtain⟨rfl,I⟩:=j.yld i H x H' c p A;have v:i<rs.length:=by lia
   have E:rs[i]? = some rs[i]:=Ag v;have ht:rs.take (i+1)=rs.take i++[rs[i]]:=by rw[Ca,E];rfl
   have h:ys.length=i:=by
    have L:=AB hp;rw[Ad,AQ] at L
    lia
   dsimp only[tYes];rw[if_pos rfl];refine P D n i x rs[i] I E _ e (by rw[l];simp) _ fun y G w o=>?_;have d:jq D G (upd G D (.lst (ys++[y]))):=fun b u q hn=>by rw[fq hn];exact q
   refine⟨ys,w _ _ l,by rw[h];exact AK c (Ax hz (by decide)),xs.length - (i+1),by lia,c,rfl,put _ _ (e.trans w),ys++[y],ft,?_⟩;rw[ht,Au];exact Paired.snocP (Paired.mapP hp fun a r z=>C _ _ _ _ _ (C _ _ _ _ _ z (w.x D)) d) (C _ _ _ _ _ o d)
 . have s:i=xs.length:=by lia
   subst s;refine .inl ⟨j.stop _ H p (Ak _),?_⟩;rw[<- hl,BP] at hp;exact M D H ys n e l hp
end L2
namespace K56
open PySem PySem.Spec L2 Mir
theorem Dn.int:Dn n (.int i):=⟨by simp only[DU],by simp only[Fh];exact AH _⟩
def a4z(ns:List Int):PyData:=.tuple (ns.map PyData.int)
theorem a1x:∀ns:List Int,DpAll K H (ns.map V.int) (ns.map PyData.int)
 | []=>.nil
 | n::ns=>.cons (.int n) (a1x ns)
theorem a36(h:SqT K H t (ns.map V.int)):Dp K H (.ref t) (a4z ns):=.tup h (a1x ns)
theorem ints_dn:Dn 1 (a4z ns):=Dn.tup fun d hd=>by
 obtain⟨i,_,rfl⟩:=Az.mp hd;exact Dn.int
theorem mt:∀{ys:List V}{rs:List α},Paired (fun y r=>∃b,y=V.ref b/\R b r) ys rs->∃bs:List Addr,ys=bs.map V.ref/\Paired R bs rs
 | _,_,.nil=>⟨[],rfl,.nil⟩
 | _,_,.cons h t=>by
  obtain⟨b,rfl,hb⟩:=h;obtain⟨bs,rfl,hp⟩:=mt t;exact⟨b::bs,rfl,.cons hb hp⟩
def byK(ns:List Str)(ts:List Addr):List (Str×V):=(ns.zip ts).map fun x=>(x.1,V.ref x.2)
theorem a16:∀{us:List Addr}{zs:List (Str×Addr)},Paired (fun b (x:Str×Addr)=>b≠D/\H b=some (.tup [.str x.1,.ref x.2])) us zs->Paired (fun t (kv:Str×V)=>SqT K H t [.str kv.1,kv.2]) us (zs.map fun x=>(x.1,V.ref x.2))
 | _,_,.nil=>.nil
 | _,_,.cons h r=>.cons (SqT.of h.2) (a16 r)
theorem scByNames:FnScope ["program"] ["program"] (iu xu):=⟨rfl,rfl,rfl,by decide +kernel,rfl,by decide +kernel,by decide +kernel⟩
end K56
namespace L2
open PySem PySem.Spec
open Classical in
def rm(X:Addr->Prop)(H:Hp):Hp:=fun c=>if X c then none else H c
theorem iz(h:¬ X c):rm X H c=H c:=by unfold rm;rw[if_neg h]
theorem mo(h:rm X H c=some o):¬ X c/\H c=some o:=by
 unfold rm at h;by_cases z:X c
 . rw[if_pos z] at h;cases h
 . rw[if_neg z] at h;exact⟨z,h⟩
theorem ko:Same (rm X H) H:=fun _ _ h=>(mo h).2
theorem jp(e:Same H H'):Same (rm X H) (rm X H'):=fun b o h=>by
 obtain⟨c,a⟩:=mo h;rw[iz c];exact e _ _ a
theorem a1u(e:jq D H H')(d:X D):Same (rm X H) (rm X H'):=fun b o h=>by
 obtain⟨a,c⟩:=mo h;rw[iz a];exact e _ _ c (fun z=>a (by rw[z];exact d))
theorem a26(h:∀c,X c->e c):Same (rm e H) (rm X H):=fun b o z=>by
 obtain⟨d,a⟩:=mo z;rw[iz (fun y=>d (h _ y))];exact a
theorem tq(h:X a):rm X (upd H a o)=rm X H:=by
 funext c
 by_cases z:X c
 . unfold rm;rw[if_pos z,if_pos z]
 . rw[iz z,iz z,fq (fun y=>z (by rw[y];exact h))]
end L2
namespace K56
open PySem PySem.Spec L2 Mir
abbrev a2p:Stmt:=top 16
abbrev a0p:Stmt:=top 17
abbrev a47:Stmt:=top 26
inductive spCopy(K:Ac)(bs:List Nat)(vs:List V)(H:Hp)(Q:VK)(E:XK):Prop
 | mk (X:Addr->Prop)(l:Addr)(ds:List Deed)(h0:vs=[.ref l])(hX:∀c,X c->H c≠none)(h1:ListX K (rm X H) bs l ds)(q:∀l' H',Same H H'->ListX K (rm X H') bs l' ds->Q (.ref l') H'):spCopy K bs vs H Q E
inductive spOwn(K:Ac)(bs:List Nat)(vs:List V)(H:Hp)(Q:VK)(E:XK):Prop
 | mk (X:Addr->Prop)(t:Addr)(d:Deed)(h0:vs=[.ref t])(hX:∀c,X c->H c≠none)(h1:DeedX K (rm X H) (ListX K (rm X H) bs) t d)(q:∀t' H',Same H H'->DeedX K (rm X H') (ListX K (rm X H') bs) t' d->Q (.ref t') H'):spOwn K bs vs H Q E
inductive spBehind(K:Ac)(vs:List V)(H:Hp)(Q:VK)(E:XK):Prop
 | mk (t:Addr)(ns:List Int)(k:Int)(h0:vs=[.ref t])(h:SqT K H t ((ns++[k]).map V.int))(hn:ns.length<=100)(q:∀t' H',Same H H'->SqT K H' t' ((ns++[k+1]).map V.int)->Q (.ref t') H'):spBehind K vs H Q E
theorem a65(C:Con K mg w)(F:Fun K "behind_deed" "behind_deed" a47 f fd):FnOk P w K mg base CX0 1 f fd ["path"] (spBehind K):=by
 refine F.okA ["path"] fun g A outer n H vs Q E l h nd=>?_;obtain⟨t,ns,k,rfl,h,hn,q⟩:=h;refine⟨_,(fz (gu (gh a2v (j8 og (qv 0) jn (j7 (jv jl fu))) (je (jb (gh ij (gx gy (qv 0) (jv jl fu) (fun _ _=>rfl)) fu) ad))))),?_⟩;rw[Au] at h;refine⟨_,rfl,_,rfl,_,rfl,t,_,rfl,h,fun p1 o b c=>?_⟩;have hc:cutV (ns.map V.int++[k].map V.int) none (some (-1))=ns.map V.int:=a3w _ _ (m:=1) rfl (by decide);rw[show cutV (ns.map V.int++[k].map V.int) none (some (-(1:Int)))=ns.map V.int from hc] at c;refine⟨_,rfl,_,rfl,t,_,_,_,rfl,rfl,b.seqT h,jd,_,_,rfl,rfl,(show 1<=sizeLine by decide),fun p2 a=>?_⟩;have d:=gc a (.tup [.int (k+1)]);refine⟨p1,p2,_,_,rfl,rfl,d.seqT c,SqT.of ft,ia (by rw[Ad];show _+1<=1000;lia),fun p3 i j e=>?_⟩;exact q p3 i ((b.trans d).trans j) (by rw[Au];exact e)
theorem aan:FnOk P w K mg base CX0 1 f fd ["deeds"] (spCopy K []) :=
 ⟨fun vs H Q E h=>by obtain⟨X,l,ds,_,_,a,_⟩:=h;exact a.elim,fun A outer s H args us vs Q E _ _ _ _ h=>by obtain⟨X,l,ds,_,_,a,_⟩:=h;exact a.elim⟩
theorem qq(hb:b<=900)(C:Con K mg w)(F:Fun K "own_deeds" "own_deeds" a0p f fd)(GO:FnOk P w K mg base CX0 (n+1) W U ["deed"] (spOwn K bs))(I:Cal K mg "own_deed" W U ["deed"]):FnOk P w K mg base CX0 (n+1+1) f fd ["deeds"] (spCopy K (b::bs)):=by
 refine F.okA ["deeds"] fun Y A outer s0 H vs Q E O h nd=>?_;obtain⟨X,l,ds,rfl,N,⟨ts,hl,hp,r⟩,q⟩:=h;refine⟨_,(fz (gu (qp (mh (qv 0)) (fun _ _ _ _=>ni) (fun _ _ _ _=>(gk GO O I (fy (qv 0) ad)))))),?_⟩;have p:=AB hp;refine⟨_,rfl,l,rfl,⟨_,SqL.of (ko _ _ hl)⟩,?_⟩;refine pf (ts.map V.ref) ds (fun D G y d=>∃t',y=V.ref t'/\DeedX K (rm (fun c=>X c\/c=D) G) (ListX K (rm (fun c=>X c\/c=D) G) bs) t' d) id pk (SqL.of (ko _ _ hl)) (by rw[Ad];lia) (by rw[Ad,p]) (fun D G G' y d z e=>?_) (fun D v j x d L hd m u i Q' T=>?_) (fun D m ys v u i hpt=>?_)
 . obtain⟨t',rfl,h⟩:=z;have g:Same (rm (fun c=>X c\/c=D) G) (rm (fun c=>X c\/c=D) G'):=a1u e (.inr rfl);exact⟨t',rfl,h.same g fun _ _ y=>y.same g⟩
 . rw[Am] at L;obtain⟨t,ht,rfl⟩:=Bb.mp L;obtain⟨d',k,J⟩:=Paired.nth hp ht;rw[hd] at k;cases k;have g:Same (rm X H) (rm (fun c=>X c\/c=D) m):=fun b o h=>by
    obtain⟨S,M⟩:=mo h;rw[iz (fun z=>z.elim S (g6 M v))];exact u _ _ M
   refine⟨_,rfl,(fun c=>X c\/c=D),t,d,rfl,fun c z y=>?_,J.same g fun _ _ y=>y.same g,fun t' Z e3 R=>T (.ref t') Z e3 ⟨t',rfl,R⟩⟩;rcases z with z|z
   . cases qc:H c with
     | none=>exact N c z qc
     | some o=>rw[u _ _ qc] at y;cases y
   . rw[z] at y;exact i y
 rw[Do] at hpt;obtain⟨us,rfl,s⟩:=mt hpt;have a:Same (rm (fun c=>X c\/c=D) m) (rm X m):=a26 fun c z=>.inl z;exact q D m u ⟨us,by rw[iz (fun z=>N D z v)];exact i,Paired.mapP s fun _ _ z=>z.same a fun _ _ y=>y.same a,by rw[AB s,<- p];exact r⟩
theorem sk(C:Con K mg w)(F:Fun K "own_deed" "own_deed" a2p f fd)(GS:FnOk P w K mg base CX0 (n+1) gS dS ["deeds"] (spCopy K bs))(k:Cal K mg "own_deeds" gS dS ["deeds"]):FnOk P w K mg base CX0 (n+1+1) f fd ["deed"] (spOwn K bs):=by
 refine F.okA ["deed"] fun al A outer s0 H vs Q E hr h nd=>?_;obtain⟨X,t,d,rfl,hX,hd,q⟩:=h;have m:∀{H':Hp},Same H H'->∀c,X c->H' c≠none:=fun {H'} e' c z y=>by
  cases qc:H c with
  | none=>exact hX c z qc
  | some o=>rw[e' _ _ qc] at y;cases y
 refine⟨_,fw (ie (gi ib (gx gy (qv 0) fu (fun _ _=>rfl)) i7 (gn _)) (fz (gu (gh vp (j8 zh (qv 0) jn (j7 fu)) (je (gw (gk GS hr k (gj (gx gy (qv 0) fu (fun _ _=>rfl)) ad)) (gw (gk GS hr k (gj (gx gy (qv 0) fu (fun _ _=>rfl)) ad)) ad)))))) iq)
  (fw (ie (gi ib (gx gy (qv 0) fu (fun _ _=>rfl)) i7 (gn _)) (fz (gu (gh vp (j8 zh (qv 0) jn (j7 fu)) (je (oi (gw (i6 ji rfl C.list Bh (gj (gx gy (gx gy (qv 0) fu (fun _ _=>rfl)) fu (fun _ _=>rfl)) ad)) (gw (i6 ji rfl C.list Bh (gj (gx gy (gx gy (qv 0) fu (fun _ _=>rfl)) fu (fun _ _=>rfl)) ad)) ad)) (gw (gk GS hr k (gj (gx gy (qv 0) fu (fun _ _=>rfl)) ad)) ad)))))) iq)
  (fz (gu (qv 0)))),?_⟩
 have N:∀{H':Hp} {p:Addr},Same H H'->H' p=none->¬ X p:=fun e' hp z=>m e' _ z hp;cases hd with
 | plain p h1 h2 =>
  obtain⟨w,vs,hw,n1,n2⟩:=zw h1 h2;have T:=ko _ _ hw;refine⟨_,rfl,t,_,0,_,rfl,rfl,SqT.of T,at0,rfl,_,rfl,iteB (fun c=>absurd (V.str.inj (of_decide_eq_true c)) n1) (fun _=>?_)⟩;refine⟨_,rfl,t,_,0,_,rfl,rfl,SqT.of T,at0,rfl,_,rfl,iteB (fun c=>absurd (V.str.inj (of_decide_eq_true c)) n2) (fun _=>?_)⟩;exact⟨_,rfl,q t H (Same.refl _) (.plain p h1 h2)⟩
 | cond c i' o r a b' h hc okr hi' ho =>
  have h':=ko _ _ h;refine⟨_,rfl,t,_,0,_,rfl,rfl,SqT.of h',rfl,rfl,_,rfl,iteB (fun _=>?_) (fun c=>absurd c (by decide +kernel))⟩;refine⟨_,rfl,_,rfl,t,_,rfl,SqT.of h',(fun z=>absurd z.2 (show ¬ (2:Nat)=4 by decide)),fun p1 x=>?_⟩;have b:=gc x (.tup [.str "if",.ref c]);have k1:(upd H p1 (.tup [.str "if",.ref c])) p1=some (.tup [.str "if",.ref c]):=ft;change tTup _ _ (upd H p1 (.tup [.str "if",.ref c])) _;generalize upd H p1 (.tup [.str "if",.ref c])=H1 at b k1 |-;refine⟨_,rfl,t,_,2,_,rfl,rfl,SqT.of (b _ _ h'),rfl,X,i',a,rfl,m b,hi'.same (jp b),fun l1 H3 Y aa=>?_⟩;have e3:=b.trans Y;refine⟨_,rfl,t,_,3,_,rfl,rfl,SqT.of (e3 _ _ h'),rfl,X,o,b',rfl,m e3,ho.same (jp e3),fun l2 H4 I ak=>?_⟩;have e4:=e3.trans I;refine⟨(show 2<=sizeLine by decide),fun p2 u=>?_⟩;obtain⟨H5,z0,R,k5⟩:=gr u (.tup [.ref l1,.ref l2]);rw[z0];have e5:=e4.trans R;refine⟨p1,p2,_,_,rfl,rfl,SqT.of (R _ _ (I _ _ (Y _ _ k1))),SqT.of k5,(by simp),(show 4<=sizeLine by decide),(fun z=>by cases z),fun _ G e=>?_⟩;have s6:=gc e (.tup [.str "if",.ref c,.ref l1,.ref l2]);have k6:(upd H5 G (.tup [.str "if",.ref c,.ref l1,.ref l2])) G=some (.tup [.str "if",.ref c,.ref l1,.ref l2]):=ft;have nn:=N e5 e;have M:=e5.trans s6;exact q G _ M (.cond c l1 l2 r a b' (by rw[iz nn];exact k6) (jp M _ _ hc) okr (aa.same (jp ((I.trans R).trans s6))) (ak.same (jp (R.trans s6))))
 | loop c td i' fa pa r F' P' a h hc okr htd hF hP okF okP lF lP hi' =>
  have h':=ko _ _ h;have s:=ko _ _ htd;refine⟨_,rfl,t,_,0,_,rfl,rfl,SqT.of h',rfl,rfl,_,rfl,iteB (fun c=>absurd c (by decide +kernel)) (fun _=>?_)⟩;refine⟨_,rfl,t,_,0,_,rfl,rfl,SqT.of h',rfl,rfl,_,rfl,iteB (fun _=>?_) (fun c=>absurd c (by decide +kernel))⟩;obtain⟨i,ah,af⟩:=hF;obtain⟨j,ai,ab⟩:=hP;refine⟨_,rfl,_,rfl,t,_,rfl,SqT.of h',(fun z=>absurd z.2 (show ¬ (2:Nat)=4 by decide)),fun p1 x=>?_⟩;have b:=gc x (.tup [.str "while",.ref c]);have k1:(upd H p1 (.tup [.str "while",.ref c])) p1=some (.tup [.str "while",.ref c]):=ft;change tTup _ _ (upd H p1 (.tup [.str "while",.ref c])) _;generalize upd H p1 (.tup [.str "while",.ref c])=H1 at b k1 |-;refine⟨_,rfl,t,_,2,_,rfl,rfl,SqT.of (b _ _ h'),rfl,td,_,0,_,rfl,rfl,SqT.of (b _ _ s),rfl,fa,_,rfl,.inl (SqL.of (b _ _ (ko _ _ ah))),fun n1 O=>?_⟩;have J:=gc O (.lst (i.map V.ref));have k2:(upd H1 n1 (.lst (i.map V.ref))) n1=some (.lst (i.map V.ref)):=ft;have ag:=N b O;generalize upd H1 n1 (.lst (i.map V.ref))=H2 at J k2 |-;have S:=b.trans J;refine⟨_,rfl,t,_,2,_,rfl,rfl,SqT.of (S _ _ h'),rfl,td,_,1,_,rfl,rfl,SqT.of (S _ _ s),rfl,pa,_,rfl,.inl (SqL.of (S _ _ (ko _ _ ai))),fun n2 U=>?_⟩;have v:=gc U (.lst (j.map V.ref));have k3:(upd H2 n2 (.lst (j.map V.ref))) n2=some (.lst (j.map V.ref)):=ft;have aj:=N S U;generalize upd H2 n2 (.lst (j.map V.ref))=H3 at v k3 |-;have s3:=S.trans v;refine⟨(show 2<=sizeLine by decide),fun g W=>?_⟩;have D:=gc W (.tup [.ref n1,.ref n2]);have k4:(upd H3 g (.tup [.ref n1,.ref n2])) g=some (.tup [.ref n1,.ref n2]):=ft;have ac:=N s3 W;generalize upd H3 g (.tup [.ref n1,.ref n2])=H4 at D k4 |-;have s4:=s3.trans D;refine⟨_,rfl,t,_,3,_,rfl,rfl,SqT.of (s4 _ _ h'),rfl,X,i',a,rfl,m s4,hi'.same (jp s4),fun l1 H5 L ae=>?_⟩;have e5:=s4.trans L;refine⟨(show 2<=sizeLine by decide),fun p2 u=>?_⟩;obtain⟨H6,z1,l,k6⟩:=gr u (.tup [.ref g,.ref l1]);rw[z1];have M:=e5.trans l;have f5:=L.trans l;have f4:=D.trans f5;have f3:=v.trans f4;have f2:=J.trans f3;refine⟨p1,p2,_,_,rfl,rfl,SqT.of (f2 _ _ k1),SqT.of k6,(by simp),(show 4<=sizeLine by decide),(fun z=>by cases z),fun _ G e=>?_⟩;have Z:=gc e (.tup [.str "while",.ref c,.ref g,.ref l1]);have k7:(upd H6 G (.tup [.str "while",.ref c,.ref g,.ref l1])) G=some (.tup [.str "while",.ref c,.ref g,.ref l1]):=ft;have nn:=N M e;have e7:=M.trans Z;exact q G _ e7 (.loop c g l1 n1 n2 r F' P' a (by rw[iz nn];exact k7) (jp e7 _ _ hc) okr (by rw[iz ac];exact Z _ _ (f5 _ _ k4)) ⟨i,by rw[iz ag];exact Z _ _ (f3 _ _ k2),Paired.mapP af fun _ _ z=>RowAt.same z (jp e7)⟩ ⟨j,by rw[iz aj];exact Z _ _ (f4 _ _ k3),Paired.mapP ab fun _ _ z=>RowAt.same z (jp e7)⟩ okF okP lF lP (ae.same (jp (l.trans Z))))
theorem oe{H:Hp}{as:List Addr}(b:H l=some (.lst (as.map V.ref)))(a:H l=some (.lst (bs.map V.ref))):as=bs:=by
 rw[b] at a;exact (List.map_inj_right (f:=V.ref) (fun x y z=>by injection z)).mp (HO.lst.inj (A0 a))
abbrev a1p:Stmt:=top 27
inductive LEnd(H:Hp)(bd:Addr):Pre->Addr->Pre×Nat->Option Addr->Prop
 | top (ts:List Addr)(h:H bd=some (.lst (ts.map V.ref))):LEnd H bd [] bd ([],ts.length) none
 | last (p:Pre)(l:Addr)(ts:List Addr)(k s:Nat)(t i o m:Addr)(c:V)(due:Pre×Nat)(e:Option Addr)(hl:LEnd H bd p l due e)(h:H l=some (.lst (ts.map V.ref)))(hk:ts[k]? = some t)(ht:H t=some (.tup [.str "if",c,.ref i,.ref o]))(hs:(s=0/\m=i)\/(s=1/\m=o))(hn:k+1=ts.length):LEnd H bd (p++[(k,s)]) m due e
 | next (p:Pre)(l:Addr)(ts:List Addr)(k s:Nat)(t i o m t':Addr)(c:V)(due:Pre×Nat)(e:Option Addr)(hl:LEnd H bd p l due e)(h:H l=some (.lst (ts.map V.ref)))(hk:ts[k]? = some t)(ht:H t=some (.tup [.str "if",c,.ref i,.ref o]))(hs:(s=0/\m=i)\/(s=1/\m=o))(hn:ts[k+1]? = some t'):LEnd H bd (p++[(k,s)]) m (p,k+1) (some t')
 | loop (p:Pre)(l:Addr)(ts:List Addr)(k:Nat)(t m:Addr)(c d:V)(due:Pre×Nat)(e:Option Addr)(hl:LEnd H bd p l due e)(h:H l=some (.lst (ts.map V.ref)))(hk:ts[k]? = some t)(ht:H t=some (.tup [.str "while",c,d,.ref m])):LEnd H bd (p++[(k,0)]) m (p,k) (some t)
theorem LEnd.from(h:LEnd H bd p l due e):LFrom H bd p l:=by
 induction h with
 | top ts h=>rfl
 | last p l ts k s t i o m c due e hl h hk ht hs hn ih=>exact ih.app ⟨ts,t,m,h,hk,.cond i o c ht hs,rfl⟩
 | next p l ts k s t i o m t' c due e hl h hk ht hs hn ih=>exact ih.app ⟨ts,t,m,h,hk,.cond i o c ht hs,rfl⟩
 | loop p l ts k t m c d due e hl h hk ht ih=>exact ih.app ⟨ts,t,m,h,hk,.loop c d ht rfl,rfl⟩
theorem LEnd.same(h:LEnd H bd p l due e)(g:Same H H'):LEnd H' bd p l due e:=by
 induction h with
 | top ts h=>exact .top ts (g _ _ h)
 | last p l ts k s t i o m c due e hl h hk ht hs hn ih=>exact .last p l ts k s t i o m c due e ih (g _ _ h) hk (g _ _ ht) hs hn
 | next p l ts k s t i o m t' c due e hl h hk ht hs hn ih=>exact .next p l ts k s t i o m t' c due e ih (g _ _ h) hk (g _ _ ht) hs hn
 | loop p l ts k t m c d due e hl h hk ht ih=>exact .loop p l ts k t m c d due e ih (g _ _ h) hk (g _ _ ht)
inductive Stands(H:Hp)(bd:Addr)(p:Pre)(k:Nat)(due:Pre×Nat)(e:Option Addr):Prop
 | own (l t:Addr)(ts:List Addr)(hl:LFrom H bd p l)(h:H l=some (.lst (ts.map V.ref)))(hk:ts[k]? = some t)(hd:due=(p,k))(he:e=some t)
 | fin (l:Addr)(ts:List Addr)(hl:LEnd H bd p l due e)(h:H l=some (.lst (ts.map V.ref)))(hk:k=ts.length)
theorem Stands.same(h:Stands H bd p k due e)(g:Same H H'):Stands H' bd p k due e:=by
 rcases h with⟨l,t,ts,hl,h,a,hd,b⟩|⟨l,ts,hl,h,a⟩
 . exact .own l t ts (hl.same g) (g _ _ h) a hd b
 . exact .fin l ts (hl.same g) (g _ _ h) a
theorem LEnd.zero(h:LEnd H bd p l due e)(hp:p=[]):∃ts:List Addr,l=bd/\H bd=some (.lst (ts.map V.ref))/\due=([],ts.length)/\e=none:=by
 cases h with
 | top ts h=>exact⟨ts,rfl,h,rfl,rfl⟩
 | last p l ts k s t i o m c due e hl h hk ht hs hn=>simp at hp
 | next p l ts k s t i o m t' c due e hl h hk ht hs hn=>simp at hp
 | loop p l ts k t m c d due e hl h hk ht=>simp at hp
theorem LEnd.up(h:LEnd H bd p l due e)(hp:p≠[]):∃(a:Pre) (b s':Nat) (f t:Addr) (ts:List Addr),p=a++[(b,s')]/\LFrom H bd a f/\H f=some (.lst (ts.map V.ref))/\ts[b]? = some t/\((∃c i o,H t=some (.tup [.str "if",c,.ref i,.ref o])/\Stands H bd a (b+1) due e)\/∃c d i,H t=some (.tup [.str "while",c,d,.ref i])/\Stands H bd a b due e):=by
 cases h with
 | top ts h=>exact absurd rfl hp
 | last p l ts k s t i o m c due e hl h hk ht hs hn=>exact⟨p,k,s,_,t,ts,rfl,hl.from,h,hk,.inl ⟨c,i,o,ht,.fin _ ts hl h hn⟩⟩
 | next p l ts k s t i o m t' c due e hl h hk ht hs hn=>exact⟨p,k,s,_,t,ts,rfl,hl.from,h,hk,.inl ⟨c,i,o,ht,.own _ t' ts hl.from h hn rfl rfl⟩⟩
 | loop p l ts k t m c d due e hl h hk ht=>exact⟨p,k,0,_,t,ts,rfl,hl.from,h,hk,.inr ⟨c,d,_,ht,.own _ t ts hl.from h hk rfl rfl⟩⟩
inductive spSettled(K:Ac)(vs:List V)(H:Hp)(Q:VK)(E:XK):Prop
 | mk (bd pt:Addr)(p:Pre)(k:Nat)(due:Pre×Nat)(e:Option Addr)(h0:vs=[.ref bd,.ref pt])(h1:SqT K H pt ((flat p++[(k:Int)]).map V.int))(h2:Stands H bd p k due e)(h3:p.length<=40)(q:∀pt' H',Same H H'->SqT K H' pt' ((flat due.1++[(due.2:Int)]).map V.int)->Q (.ref pt') H'):spSettled K vs H Q E
inductive SW(K:Ac)(H:Hp)(bd:Addr)(due:Pre×Nat)(e:Option Addr)(m:Nat)(σ:St)(H1:Hp):Prop
 | mk (pt:Addr)(p:Pre)(k:Nat)(e1:Same H H1)(h1:SqT K H1 pt ((flat p++[(k:Int)]).map V.int))(h2:Stands H1 bd p k due e)(hm:p.length=m)(h3:m<=40)(hσ:σ=[some (.ref bd),some (.ref pt)])
theorem a51(C:Con K mg w)(F:Fun K "settled" "settled" a1p f fd)(GL:FnOk P w K mg base CX0 2 gL dL ["body","path"] (spListOf K))(Z:Cal K mg "list_of" gL dL ["body","path"])(GF:FnOk P w K mg base CX0 3 gF dF ["body","path"] (spFound K))(Y:Cal K mg "found_at" gF dF ["body","path"])(GB:FnOk P w K mg base CX0 1 gB dB ["path"] (spBehind K))(cB:Cal K mg "behind_deed" gB dB ["path"]):FnOk P w K mg base CX0 4 f fd ["body","path"] (spSettled K):=by
 refine F.okA ["body","path"] fun ak A outer s0 H vs Q E W h nd=>?_;obtain⟨bd,pt,p,k,due,e,rfl,hpt,ae,hp,q⟩:=h;have af:=W.mono (j:=1) (by lia);have ah:=W.mono (j:=2) (by lia);refine⟨_,fw (qi AO (QW.qt (ph (gi wp (ii ld rfl C.len AV (fy (qv 1) ad)) fu (gn _)) (ng (gi ib (gx gy (qv 1) (jv jl fu) (fun _ _=>rfl)) (ii ld rfl C.len AV (gw (gk GL ah Z (fy (qv 0) (fy (qv 1) ad))) ad)) (gn _))))) (fw (gp 1 nd (j8 og (qv 1) jn (j7 (jv jl fu))))
  (fz (ie (gi ib (gx gy (gk GF W Y (fy (qv 0) (fy (qv 1) ad))) fu (fun _ _=>rfl)) i7 (gn _)) (fz (gp 1 nd (gk GB af cB (fy (qv 1) ad)))) iq))))
  (fz (gu (qv 1))),?_⟩
 refine g8 (a:=uz _ _) fun D1 ac aj ai=>?_;refine⟨SW K H bd due e,⟨p.length,pt,p,k,Same.refl _,hpt,ae,rfl,hp,rfl⟩,?_⟩;rintro m σ G ⟨pt,p,k,e1,J,h2,rfl,h3,rfl⟩;have S:(((flat p++[(k:Int)]).map V.int).length:Int)=2*(p.length:Int)+1:=by rw[Ad,Aj,m4];simp
 have out:∀D,Same G D->due=(p,k)->D1.nx [some (.ref bd),some (.ref pt)] D:=fun D x hd=>by
  refine ac _ _ ⟨_,rfl,?_⟩;subst hd;exact q pt D (e1.trans x) (x.seqT J)
 refine⟨_,rfl,pt,_,rfl,.inr J,_,_,rfl,rfl,_,rfl,iteB (fun X=>?_) (fun X=>?_)⟩
 . have v:(1:Int)<(((flat p++[(k:Int)]).map V.int).length:Int):=of_decide_eq_true X;have u:p≠[]:=fun z=>by rw[S,z] at v;exact absurd v (by decide)
   obtain⟨l,ts,hl,ab,r⟩:∃(l:Addr) (ts:List Addr),LFrom G bd p l/\G l=some (.lst (ts.map V.ref))/\((k<ts.length/\due=(p,k))\/(k=ts.length/\LEnd G bd p l due e)):=by
    rcases h2 with⟨l,t,ts,hl,h,r,hd,he⟩|⟨l,ts,hl,h,r⟩
    . exact⟨l,ts,hl,h,.inl ⟨(Aw.mp r).1,hd⟩⟩
    . exact⟨l,ts,hl.from,h,.inr ⟨r,hl⟩⟩
   have L:=J;rw[Au] at L;refine⟨_,rfl,_,rfl,pt,_,_,_,rfl,rfl,L,jd,_,rfl,_,rfl,bd,pt,l,p,k,rfl,J,hl,(by lia),fun D x=>⟨l,_,rfl,.inl (SqL.of (x _ _ ab)),rfl,_,rfl,iteB (fun c2=>?_) (fun c2=>?_)⟩⟩
   . have R:k=ts.length:=by
      have:=V.int.inj (of_decide_eq_true c2);rw[Ad] at this;lia
     have hE:LEnd G bd p l due e:=by
      rcases r with⟨z,_⟩|⟨_,z⟩
      . lia
      . exact z
     obtain⟨b,n,s',l',t,T,rfl,aa,I,O,ag⟩:=hE.up u;refine⟨fun σ' H'=>∃m',m'<(b++[(n,s')]).length/\SW K H bd due e m' σ' H',fun _ _ z=>z,?_⟩;have al:(b++[(n,s')]).length=b.length+1:=by rw[Aj];rfl
     have N:cutV ((flat (b++[(n,s')])++[(k:Int)]).map V.int) none (some (-(2:Int)))=(flat b++[(n:Int)]).map V.int:=by
      rw[xy,show (flat b++flat [(n,s')]++[(k:Int)])=(flat b++[(n:Int)])++[(s':Int),(k:Int)] by simp[flat],Au];exact a3w _ _ (m:=2) rfl (by decide)
     refine⟨_,rfl,_,rfl,_,rfl,pt,_,rfl,x.seqT J,fun p1 H3 e3 s=>?_⟩;rw[N] at s;have y:=x.trans e3;refine⟨_,rfl,_,rfl,bd,p1,l',b,n,T,rfl,s,aa.same y,(by lia),y _ _ I,fun t2 H4 M U=>?_,fun H4 hn U=>by rw[O] at hn;cases hn⟩;rw[O] at M;cases M;have g:=y.trans U;rcases ag with⟨c,i,o,ht,hS⟩|⟨c,d,i,ht,hS⟩
     . refine⟨t,_,0,_,rfl,rfl,SqT.of (g _ _ ht),rfl,rfl,_,rfl,iteB (fun _=>?_) (fun c=>absurd c (by decide +kernel))⟩;refine⟨_,rfl,p1,flat b,(n:Int),rfl,U.seqT s,by rw[m4];lia,fun p2 H5 e5 h5=>?_⟩;exact⟨b.length,by lia,p2,b,n+1,(e1.trans g).trans e5,by rw[show ((n+1:Nat):Int)=(n:Int)+1 by lia];exact h5,hS.same (g.trans e5),rfl,by lia,rfl⟩
     . refine⟨t,_,0,_,rfl,rfl,SqT.of (g _ _ ht),rfl,rfl,_,rfl,iteB (fun c=>absurd c (by decide +kernel)) (fun _=>?_)⟩;exact⟨b.length,by lia,p1,b,n,e1.trans g,U.seqT s,hS.same g,rfl,by lia,rfl⟩
   . have R:¬ k=ts.length:=fun z=>of_decide_eq_false c2 (by rw[z,Ad]);rcases r with⟨_,z⟩|⟨z,_⟩
     . exact out D x z
     . exact absurd z R
 . have v:¬ (1:Int)<(((flat p++[(k:Int)]).map V.int).length:Int):=of_decide_eq_false X;have u:p=[]:=B0 (by lia);refine (if_neg Ai).mpr (out G (Same.refl _) ?_);rcases h2 with⟨l,t,ts,hl,h,r,hd,he⟩|⟨l,ts,hl,h,r⟩
   . exact hd
   . obtain⟨T,rfl,h',rfl,_⟩:=hl.zero u;rw[oe h h'] at r;rw[u,r]
abbrev a69:Stmt:=top 9
abbrev a0g:Stmt:=top 18
def places:List (Str×V):=[("read",.int 2),("write",.int 1),("free",.int 1)]
inductive spNumOf(vs:List V)(H:Hp)(Q:VK)(E:XK):Prop
 | nil (d:Addr)(h0:vs=[.ref d,.str "nil"])(q:Q (.int 0) H):spNumOf vs H Q E
 | name (d:Addr)(kvs:List (Key×V))(x:Str)(v:V)(h0:vs=[.ref d,.str x])(hx:x ≠ "nil")(h1:H d=some (.dK kvs))(h2:valV kvs (Sum.inr x)=some v)(q:Q v H):spNumOf vs H Q E
inductive spCellName(K:Ac)(vs:List V)(H:Hp)(Q:VK)(E:XK):Prop
 | none (t:Addr)(w:Str)(us:List V)(h0:vs=[.ref t])(h1:SqT K H t (.str w::us))(h2:places.lookup w=none)(q:Q .non H):spCellName K vs H Q E
 | some (t:Addr)(w:Str)(us:List V)(k:Nat)(v:V)(h0:vs=[.ref t])(h1:SqT K H t (.str w::us))(h2:places.lookup w=some (.int (k:Int)))(h3:(V.str w::us)[k]? = some v)(q:Q v H):spCellName K vs H Q E
theorem a9a(C:Con K mg w)(F:Fun K "number_of" "number_of" a69 f fd):FnOk P w K mg base CX0 1 f fd ["values","word"] spNumOf:=by
 refine F.okA ["values","word"] fun g A outer m H vs Q E e h nd=>?_;have a:=kx e;refine⟨_,(fz (gu (mz (gi ib (qv 1) i7 (gn _)) fu (ml a (qv 0) (qv 1) (fun _ _=>rfl))))),?_⟩;rcases h with⟨d,rfl,q⟩|⟨d,kvs,x,v,rfl,i,l,j,q⟩
 . exact⟨_,rfl,rfl,_,rfl,iteB (fun _=>q) (fun c=>absurd c (by simp))⟩
 . refine⟨_,rfl,rfl,_,rfl,iteB (fun c=>absurd (V.str.inj (of_decide_eq_true c)) i) (fun _=>?_)⟩;have b:=DGet.k (k:=Sum.inr x) l;rw[j] at b;exact⟨_,rfl,_,rfl,d,v,rfl,b,q⟩
theorem a34(C:Con K mg w)(F:Fun K "cell_name" "cell_name" a0g f fd):FnOk P w K mg base CX0 1 f fd ["deed"] (spCellName K):=by
 refine F.okA ["deed","place"] fun m A outer p H vs Q E o h nd=>?_;obtain⟨j,n,g⟩:=C.places;refine⟨_,fw (gp 1 nd (acl (qe_g n) (gj (gx gy (qv 0) fu (fun _ _=>rfl)) ad)))
  (fz (gu (mz (gi a2i (qv 1) oq (gn _)) oq (gx gy (qv 0) (qv 1) (fun _ _=>rfl))))),?_⟩
 rcases h with⟨t,b,us,rfl,d,e,q⟩|⟨t,b,us,k,v,rfl,d,e,l,q⟩
 . have a:([("read",.int 2),("write",.int 1),("free",.int 1)]:List (Str×V)).lookup b=Option.none:=e;refine⟨j,_,rfl,g,_,rfl,t,_,0,_,rfl,rfl,d,at0,b,rfl,?_⟩;rw[a];exact⟨_,rfl,rfl,_,rfl,iteB (fun _=>q) (fun c=>absurd c (by simp))⟩
 . have a:([("read",.int 2),("write",.int 1),("free",.int 1)]:List (Str×V)).lookup b=Option.some (.int (k:Int)):=e;refine⟨j,_,rfl,g,_,rfl,t,_,0,_,rfl,rfl,d,at0,b,rfl,?_⟩;rw[a];exact⟨_,rfl,rfl,_,rfl,iteB (fun c=>absurd c (by simp)) (fun _=>⟨_,rfl,_,rfl,t,_,_,_,rfl,rfl,d,jg l,q⟩)⟩
theorem i4(h:X.K=K)(c:QE X e b)(hb:attributeBase e a X.env (eval e X.env)=eval e X.env:=by rfl):QE X (.Attribute e a pos) (tFld K b a):=by subst h;exact af2 c hb
theorem kq(h:X.K=K)(ha:QE X o c)(d:QE X value e)(hs:swapsWith value (some (.Attribute o b a)) pos.line X.env=pure false:=by rfl):QS X (.Assign [.Attribute o b a] value pos) (sFld K c e b):=by subst h;exact aev ha d hs
abbrev a77:Stmt:=kh (top 29) 0
abbrev a1n:Stmt:=kh (top 29) 1
abbrev a60:Stmt:=kh (top 29) 2
abbrev a4r:Stmt:=kh (top 29) 3
structure TxF(K:Ac)(mg:Str->Option Value)(C fI:Addr):Prop where
 cl:Cls K C
 nP:NoAttr K C "procedure"
 nA:NoAttr K C "path"
 nN:NoAttr K C "numbers"
 nR:NoAttr K C "receiver"
 mgC:mg "Frame" = some (.ref C)
 mkC:Mk K C fI
structure MCal(K:Ac)(C:Addr)(m:Str)(f:Addr)(fd:FuncData)(ps:List Str):Prop where
 meth:Meth K C m f
 bind:Binds K fd ps []
structure FFs(fs:List (Str×V))(pr pt nd:Addr)(rc:Str):Prop where
 procedure:fs.lookup ("procedure" : Str)=some (.ref pr)
 path:fs.lookup ("path" : Str)=some (.ref pt)
 numbers:fs.lookup ("numbers" : Str)=some (.ref nd)
 receiver:fs.lookup ("receiver" : Str)=some (.str rc)
 len:fs.length<100
 meth:∀m∈([("deed" : Str),"move","number"]:List Str),fs.lookup m=none
theorem aeo:∀m∈([("deed" : Str),"move","number"]:List Str),m≠("path" : Str):=by decide +kernel
theorem acs:("procedure" : Str) ≠ "path" /\ ("numbers" : Str) ≠ "path" /\ ("receiver" : Str) ≠ "path" := by decide +kernel
theorem FFs.path'(h:FFs fs pr pt nd rc)(hl:fs.length<50)(q:Addr):FFs (putF "path" (.ref q) fs) pr q nd rc:=by
 obtain⟨n1,n2,n3⟩:=acs;refine⟨?_,?_,?_,?_,?_,fun m hm=>?_⟩
 . rw[gf,if_neg n1];exact h.procedure
 . rw[gf,if_pos rfl]
 . rw[gf,if_neg n2];exact h.numbers
 . rw[gf,if_neg n3];exact h.receiver
 . have:=ir "path" (.ref q) fs;lia
 . rw[gf,if_neg (aeo m hm)];exact h.meth m hm
def uu(C:Addr):Sp:=fun vs H Q E=>∃(p dx pr pt nd:Addr) (fs:List (Str×V)) (rc x:Str),vs=[.ref p,.str x]/\H p=some (.ins C dx fs)/\FFs fs pr pt nd rc/\spNumOf [.ref nd,.str x] H Q E0
def vt(K:Ac)(C:Addr):Sp:=fun vs H Q E=>∃(p dx pr pt nd bd:Addr) (fs:List (Str×V)) (rc:Str) (v0 v1 v2 v3 v4:V),vs=[.ref p]/\H p=some (.ins C dx fs)/\FFs fs pr pt nd rc/\H pr=some (.tup [v0,v1,v2,v3,v4,.ref bd])/\spFound K [.ref bd,.ref pt] H Q E0
theorem scFNum:FnScope ["self","word"] ["self","word"] (iu a4r):=⟨rfl,rfl,rfl,by decide +kernel,rfl,by decide +kernel,by decide +kernel⟩
theorem ad8(T:TxF K mg C j)(F:Fun K "number" "Frame.number" a4r f fd)(e:FnOk P w K mg base CX0 1 c i ["values","word"] spNumOf)(a:Cal K mg "number_of" c i ["values","word"]):FnOk P w K mg base CX0 2 f fd ["self","word"] (uu C):=by
 refine F.okQ scFNum (fun vs H Q E h=>?_) (fun g A outer k H vs Q E b h=>?_)
 . obtain⟨p,dx,pr,pt,nd,fs,rc,x,rfl,_⟩:=h;rfl
 obtain⟨p,dx,pr,pt,nd,fs,rc,x,rfl,hp,d,q⟩:=h;have nd:=scFNum.nd;refine⟨_,(fz (gu (gk e b a (jf (i4 (K:=K) rfl (qv 0)) (fy (qv 1) ad))))),?_⟩;exact⟨_,rfl,p,C,dx,fs,_,rfl,hp,T.cl,T.nN,d.numbers,_,rfl,q⟩
theorem scFDeed:FnScope ["self"] ["self"] (iu a1n):=⟨rfl,rfl,rfl,by decide +kernel,rfl,by decide +kernel,by decide +kernel⟩
theorem a9k(T:TxF K mg C o)(F:Fun K "deed" "Frame.deed" a1n f fd)(l:FnOk P w K mg base CX0 3 j k ["body","path"] (spFound K))(a:Cal K mg "found_at" j k ["body","path"]):FnOk P w K mg base CX0 4 f fd ["self"] (vt K C):=by
 refine F.okQ scFDeed (fun vs H Q E h=>?_) (fun m A outer r H vs Q E c h=>?_)
 . obtain⟨p,dx,pr,pt,nd,bd,fs,rc,n,g,d,e,i,rfl,_⟩:=h;rfl
 obtain⟨p,dx,pr,pt,nd,bd,fs,rc,n,g,d,e,i,rfl,hp,b,hpr,q⟩:=h;have nd:=scFDeed.nd;refine⟨_,(fz (gu (gk l c a (gj (gx gy (i4 (K:=K) rfl (qv 0)) fu (fun _ _=>rfl)) (jf (i4 (K:=K) rfl (qv 0)) ad))))),?_⟩;exact⟨_,rfl,p,C,dx,fs,_,rfl,hp,T.cl,T.nP,b.procedure,pr,_,5,_,rfl,rfl,SqT.of hpr,rfl,_,rfl,p,C,dx,fs,_,rfl,hp,T.cl,T.nA,b.path,q⟩
theorem wj:∀{fs:List (Str×V)},fs.lookup f=some x->(putF f v fs).length=fs.length
 | [],h=>by cases h
 | (g,y)::r,h=>by
  unfold putF;by_cases e:g=f
  . rw[if_pos e];rfl
  . rw[if_neg e,AC,AC];rw[Cj,show (f == g)=false from beq_eq_false_iff_ne.mpr (AL e)] at h;rw[wj h]
def sw(K:Ac)(C:Addr):Sp:=fun vs H Q E=>∃(p dx pr pt nd bd q0:Addr) (fs:List (Str×V)) (rc:Str) (v0 v1 v2 v3 v4:V) (pp:Pre) (k:Nat) (due:Pre×Nat) (e:Option Addr),vs=[.ref p,.ref q0]/\H p=some (.ins C dx fs)/\FFs fs pr pt nd rc/\fs.length<50/\H pr=some (.tup [v0,v1,v2,v3,v4,.ref bd])/\SqT K H q0 ((flat pp++[(k:Int)]).map V.int)/\Stands H bd pp k due e/\pp.length<=40/\
 ∀q1 fs' H',Same H H'->SqT K H' q1 ((flat due.1++[(due.2:Int)]).map V.int)->FFs fs' pr q1 nd rc->fs'.length=fs.length->(∀f,f≠("path" : Str)->fs'.lookup f=fs.lookup f)->Q .non (upd H' p (.ins C dx fs'))
theorem a9b(T:TxF K mg C G)(F:Fun K "move" "Frame.move" a60 f fd)(o:FnOk P w K mg base CX0 4 m x ["body","path"] (spSettled K))(c:Cal K mg "settled" m x ["body","path"]):FnOk P w K mg base CX0 5 f fd ["self","path"] (sw K C):=by
 refine F.okA ["self","path"] fun y A outer I H vs Q E n h nd=>?_;obtain⟨p,dx,pr,pt,nd,bd,j,fs,rc,z,t,r,s,v,pp,k,due,e,rfl,hp,g,hl,hpr,hq,d,a,q⟩:=h;refine⟨_,(fz (kq (K:=K) rfl (qv 0) (gk o n c (gj (gx gy (i4 (K:=K) rfl (qv 0)) fu (fun _ _=>rfl)) (fy (qv 1) ad))))),?_⟩;refine⟨_,rfl,p,C,dx,fs,_,rfl,hp,T.cl,T.nP,g.procedure,pr,_,5,_,rfl,rfl,SqT.of hpr,rfl,_,rfl,bd,j,pp,k,due,e,rfl,hq,d,a,fun l D i u=>?_⟩;refine⟨_,rfl,p,C,dx,fs,rfl,i _ _ hp,T.cl,T.nA,by lia,?_⟩;exact q l _ D i u (g.path' hl l) (wj g.path) fun f b=>by rw[gf,if_neg b]
def lj(kvs:List (Key×V))(zs:List Str):List (Str×V):=zs.map fun z=>(z,(valV kvs (Sum.inr z)).getD (.int 0))
inductive spFInit(K:Ac)(C:Addr)(bs:List Nat)(vs:List V)(H:Hp)(Q:VK)(E:XK):Prop
 | mk (G:Hp)(p dx t q0 nm bd:Addr)(rc:Str)(pc:Prc)(xs:List Str)(v0 v1 v2 v3 v4:V)(kvs:List (Key×V))(pp:Pre)(k:Nat)(due:Pre×Nat)(e:Option Addr)(h0:vs=[.ref p,.ref t,.ref q0,.ref nm,.str rc])(eG:Same G H)(hp:G p=none)(hp1:H p=some (.ins C dx []))(h1:PrcAt K G bs t pc)(h2:PrcOk bs xs pc)(hbd:G t=some (.tup [v0,v1,v2,v3,v4,.ref bd]))(h3:SqT K G q0 ((flat pp++[(k:Int)]).map V.int))(h4:Stands G bd pp k due e)(h5:pp.length<=40)(h6:G nm=some (.dK kvs))(q:∀q1 nd fs zs H',Same G H'->H' p=some (.ins C dx fs)->FFs fs t q1 nd rc->fs.length<=4->SqT K H' q1 ((flat due.1++[(due.2:Int)]).map V.int)->H nd=none->H' nd=some (.dK ((lj kvs zs).map kk))->zs.Nodup->Ea zs=true->(∀y,y∈zs↔i5 y=true/\y∈allW bs pc)->Q .non H'):spFInit K C bs vs H Q E
theorem acu:("procedure" : Str) ≠ "path" /\ ("procedure" : Str) ≠ "numbers" /\ ("procedure" : Str) ≠ "receiver" /\ ("path" : Str) ≠ "numbers" /\ ("path" : Str) ≠ "receiver" /\ ("numbers" : Str) ≠ "receiver" := by decide +kernel
theorem afc:∀m∈([("deed" : Str),"move","number"]:List Str),m≠("procedure" : Str)/\m≠("path" : Str)/\m≠("numbers" : Str)/\m≠("receiver" : Str):=by decide +kernel
theorem ac6(pr pt nd:Addr)(rc:Str):FFs (putF "receiver" (.str rc) (putF "numbers" (.ref nd) (putF "path" (.ref pt) (putF "procedure" (.ref pr) [])))) pr pt nd rc/\(putF "receiver" (.str rc) (putF "numbers" (.ref nd) (putF "path" (.ref pt) (putF "procedure" (.ref pr) [])))).length<=4:=by
 obtain⟨n1,n2,n3,n4,n5,a⟩:=acu;have d:=ir "procedure" (.ref pr) [];have f:=ir "path" (.ref pt) (putF "procedure" (.ref pr) []);have e:=ir "numbers" (.ref nd) (putF "path" (.ref pt) (putF "procedure" (.ref pr) []));have g:=ir "receiver" (.str rc) (putF "numbers" (.ref nd) (putF "path" (.ref pt) (putF "procedure" (.ref pr) [])));simp only[Ek] at d;refine⟨⟨?_,?_,?_,?_,by lia,fun m hm=>?_⟩,by lia⟩
 . rw[gf,if_neg n3,gf,if_neg n2,gf,if_neg n1,gf,if_pos rfl]
 . rw[gf,if_neg n5,gf,if_neg n4,gf,if_pos rfl]
 . rw[gf,if_neg a,gf,if_pos rfl]
 . rw[gf,if_pos rfl]
 . obtain⟨m1,m2,b,c⟩:=afc m hm;rw[gf,if_neg c,gf,if_neg b,gf,if_neg m2,gf,if_neg m1];rfl
theorem zk:∀{us:List Addr}{zs:List Str},Paired (fun b (z:Str)=>b≠D/\H b=some (.tup [.str z,(valV kvs (Sum.inr z)).getD (.int 0)])) us zs->Paired (fun t (kv:Str×V)=>SqT K H t [.str kv.1,kv.2]) us (lj kvs zs)
 | _,_,.nil=>.nil
 | _,_,.cons h r=>.cons (SqT.of h.2) (zk r)
theorem a9p(hn:4<=n)(C':Con K mg w)(T:TxF K mg C fI)(F:Fun K "__init__" "Frame.__init__" a77 f fd)(GS:FnOk P w K mg base CX0 4 gS dS ["body","path"] (spSettled K))(cS:Cal K mg "settled" gS dS ["body","path"])(GN:FnOk P w K mg base CX0 n gN dN ["procedure"] (spNamesIn K bs))(cN:Cal K mg "names_in" gN dN ["procedure"]):FnOk P w K mg base CX0 (n+1) f fd ["self","procedure","path","numbers","receiver"] (spFInit K C bs):=by
 refine F.okA ["self","procedure","path","numbers","receiver"] fun aj A outer s0 H vs Q E hr h nd=>?_;obtain⟨G,p,dx,t,q0,nm,bd,rc,pc,xs,v0,v1,v2,v3,v4,kvs,pp,k,due,e,rfl,eG,hp,ae,h1,h2,hbd,h3,h4,h5,h6,q⟩:=h;have ac:=hr.mono (j:=4) (by lia);have ab:=kx hr;refine⟨_,fw (kq (K:=K) rfl (qv 0) (qv 1))
  (fw (kq (K:=K) rfl (qv 0) (gk GS ac cS (gj (gx gy (qv 1) fu (fun _ _=>rfl)) (fy (qv 2) ad))))
  (fw (kq (K:=K) rfl (qv 0) (i6 (yq (K:=K) rfl rfl) rfl C'.dict BG (jf (aa9 ["name","numbers"] [3] (mh (gk GN hr cN (fy (qv 1) ad))) (fun _ _ _ _=>ni) (fun _ _ _ _=>(je (fy (qv 0) (gw (aas ab (qv 1) (qv 0) fu) ad))))) ad)))
  (fz (kq (K:=K) rfl (qv 0) (qv 4))))),?_⟩
 have small:∀{n:Nat},n<=10->n<1000:=fun h=>by lia
 refine⟨_,rfl,_,rfl,p,C,dx,_,rfl,ae,T.cl,T.nP,small (AH _),?_⟩;have g1:Same G (upd H p (.ins C dx (putF "procedure" (.ref t) []))):=fun b o z=>by rw[fq (g6 z hp)];exact eG _ _ z
 have k1:(upd H p (.ins C dx (putF "procedure" (.ref t) []))) p=some (.ins C dx (putF "procedure" (.ref t) [])):=ft;have f1:∀c,(upd H p (.ins C dx (putF "procedure" (.ref t) []))) c=none->H c=none:=fun c z=>by
  by_cases y:c=p
  . rw[y,ft] at z;cases z
  . rw[fq y] at z;exact z
 generalize upd H p (.ins C dx (putF "procedure" (.ref t) []))=H1 at g1 k1 f1 |-;have l1:=ir "procedure" (.ref t) [];simp only[Ek] at l1;refine⟨_,rfl,t,_,5,_,rfl,rfl,SqT.of (g1 _ _ hbd),rfl,_,rfl,bd,q0,pp,k,due,e,rfl,g1.seqT h3,h4.same g1,h5,fun i U Z hq1=>?_⟩;have l2:=ir "path" (.ref i) (putF "procedure" (.ref t) []);refine⟨_,rfl,p,C,dx,_,rfl,Z _ _ k1,T.cl,T.nA,small (by lia),?_⟩;have g2:=g1.trans Z;have X:Same G (upd U p (.ins C dx (putF "path" (.ref i) (putF "procedure" (.ref t) [])))):=fun b o z=>by rw[fq (g6 z hp)];exact g2 _ _ z
 have k3:(upd U p (.ins C dx (putF "path" (.ref i) (putF "procedure" (.ref t) [])))) p=some (.ins C dx (putF "path" (.ref i) (putF "procedure" (.ref t) []))):=ft;have f3:∀c,(upd U p (.ins C dx (putF "path" (.ref i) (putF "procedure" (.ref t) [])))) c=none->H c=none:=fun c z=>by
  by_cases y:c=p
  . rw[y,ft] at z;cases z
  . rw[fq y] at z;exact f1 c (Z.free z)
 have put:∀{H':Hp} {fs fs':List (Str×V)} {a:Addr} {ys:List V},H' p=some (.ins C dx fs)->SqT K H' a ys->SqT K (upd H' p (.ins C dx fs')) a ys:=fun {H' fs fs' a ys} L h=>by
  rcases h with (h|⟨o,h⟩)|h
  . exact .inl (.inl (by rw[fq (fun z=>by rw[z,L] at h;cases h)];exact h))
  . exact .inl (.inr ⟨o,by rw[fq (fun z=>by rw[z,L] at h;cases h)];exact h⟩)
  . exact .inr h
 have O:=put (fs':=putF "path" (.ref i) (putF "procedure" (.ref t) [])) (Z _ _ k1) hq1;generalize upd U p (.ins C dx (putF "path" (.ref i) (putF "procedure" (.ref t) [])))=H3 at X k3 f3 O |-;refine⟨_,rfl,G,t,pc,xs,rfl,X,h1,h2,fun zl zs H4 e4 ai kz v af u=>?_⟩;have g4:=X.trans e4;have ag:zs.length<=20:=Ax (AW v fun y hy=>h2.names y ((u y).mp hy).2 ((u y).mp hy).1) h2.len;refine⟨zl,rfl,⟨_,SqL.of kz⟩,?_⟩;refine pf (zs.map V.str) zs (fun D G' y (z:Str)=>∃b,y=V.ref b/\b≠D/\G' b=some (.tup [.str z,(valV kvs (Sum.inr z)).getD (.int 0)])) id pk (SqL.of kz) (by rw[Ad];lia) (by rw[Ad]) (fun D G1 G2 y x z e=>?_) (fun D hD j x r hx aa Y e5 s Q' q'=>?_) (fun D Y ys hD e5 s hpt=>?_)
 . obtain⟨b,rfl,nb,hb⟩:=z;exact⟨b,rfl,nb,e _ _ hb nb⟩
 . have ah:x=.str r:=by rw[Am,aa] at hx;exact (A0 hx).symm
   subst ah;have S:=(g4.trans e5) _ _ h6;have g:=DGet.k (k:=Sum.inr r) S;refine⟨_,rfl,_,rfl,nm,rfl,.inl ⟨_,.inl S⟩,_,rfl,_,g,(show 2<=sizeLine by decide),fun b hb=>q' (.ref b) _ (gc hb _) ⟨b,rfl,fun z=>?_,ft⟩⟩;rw[z] at hb;exact s hb
 rw[Do] at hpt;obtain⟨us,rfl,N⟩:=mt (R:=fun b (z:Str)=>b≠D/\Y b=some (.tup [.str z,(valV kvs (Sum.inr z)).getD (.int 0)])) hpt;have ak:=AB N;refine⟨D,us,lj kvs zs,rfl,SqL.of s,zk N,?_,(by lia),fun d l=>?_⟩
 . unfold lj;rw[Bd];have:(zs.map ((fun x=>x.1)∘fun z=>(z,(valV kvs (Sum.inr z)).getD (.int 0))))=zs:=by
    have e:((fun x:Str×V=>x.1)∘fun z:Str=>(z,(valV kvs (Sum.inr z)).getD (.int 0)))=id:=rfl;rw[e,Do]
   rw[this];exact v
 have M:=e4.trans e5;have s6:=gc l (.dK ((lj kvs zs).map kk));have W:(upd Y d (.dK ((lj kvs zs).map kk))) d=some (.dK ((lj kvs zs).map kk)):=ft;have nH:H d=none:=f3 _ (M.free l);generalize upd Y d (.dK ((lj kvs zs).map kk))=H6 at s6 W |-;have I:=M.trans s6;have m:=I _ _ k3;have l3:=ir "numbers" (.ref d) (putF "path" (.ref i) (putF "procedure" (.ref t) []));refine⟨_,rfl,p,C,dx,_,rfl,m,T.cl,T.nN,small (by lia),?_⟩;refine⟨_,rfl,_,rfl,p,C,dx,_,rfl,ft,T.cl,T.nR,small (by lia),?_⟩;obtain⟨FF,fl⟩:=ac6 t i d rc;have J:d≠p:=fun z=>by rw[z,m] at W;cases W
 refine q i d _ zs _ (fun b o z=>?_) ft FF fl (put ft (put m (I.seqT O))) nH ?_ v af u
 . rw[fq (g6 z hp),fq (g6 z hp)];exact (X.trans I) _ _ z
 . rw[fq J,fq J];exact W
abbrev a2f:Stmt:=kh (top 30) 0
abbrev a6f:Stmt:=kh (top 30) 1
abbrev a86:Stmt:=kh (top 30) 3
abbrev a78:Stmt:=kh (top 30) 4
abbrev a66:Stmt:=kh (top 30) 6
abbrev a3x:Stmt:=kh (top 30) 9
abbrev a2a:Stmt:=kh (top 30) 10
structure TxM(K:Ac)(mg:Str->Option Value)(C fI:Addr):Prop where
 cl:Cls K C
 nP:NoAttr K C "procedures"
 nF:NoAttr K C "frames"
 nC:NoAttr K C "cells"
 nG:NoAttr K C "greatest"
 nL:NoAttr K C "fallen"
 mgC:mg "Machine" = some (.ref C)
 mkC:Mk K C fI
def nj:List Str:=["word","where","held","heap","go","step","branch","enter","leave_ended","change"]
structure MFs(fs:List (Str×V))(pd fl cd:Addr)(g:Int)(b:Bool):Prop where
 procedures:fs.lookup ("procedures" : Str)=some (.ref pd)
 frames:fs.lookup ("frames" : Str)=some (.ref fl)
 cells:fs.lookup ("cells" : Str)=some (.ref cd)
 greatest:fs.lookup ("greatest" : Str)=some (.int g)
 fallen:fs.lookup ("fallen" : Str)=some (.bl b)
 len:fs.length<100
 meth:∀m∈nj,fs.lookup m=none
structure MaAt(CM CF:Addr)(H:Hp)(m pd fl cd p pr pt nd:Addr)(fps:List Addr)(g:Int)(b:Bool)(rc:Str):Prop where
 ob:∃dx fs,H m=some (.ins CM dx fs)/\MFs fs pd fl cd g b
 frs:H fl=some (.lst ((fps++[p]).map V.ref))
 fr:∃dx fs,H p=some (.ins CF dx fs)/\FFs fs pr pt nd rc/\fs.length<50
def a75(CM CF:Addr):Sp:=fun vs H Q E=>∃(m pd fl cd p pr pt nd:Addr) (fps:List Addr) (g:Int) (b:Bool) (rc:Str) (kvs:List (Key×V)),vs=[.ref m]/\MaAt CM CF H m pd fl cd p pr pt nd fps g b rc/\H nd=some (.dK kvs)/\∀a,H a=none->Q (.ref a) (upd H a (.dK kvs))
def a7l(CM:Addr):Sp:=fun vs H Q E=>∃(m dx pd fl cd:Addr) (fs:List (Str×V)) (g:Int) (b:Bool) (kvs:List (Key×V)),vs=[.ref m]/\H m=some (.ins CM dx fs)/\MFs fs pd fl cd g b/\H cd=some (.dK kvs)/\∀a,H a=none->Q (.ref a) (upd H a (.dK kvs))
inductive spWord(K:Ac)(CM CF:Addr)(vs:List V)(H:Hp)(Q:VK)(E:XK):Prop
 | fall (m dx pd fl cd:Addr)(fs:List (Str×V))(g:Int)(h0:vs=[.ref m])(h1:H m=some (.ins CM dx fs))(h2:MFs fs pd fl cd g true)(q:Q (.str "fall") H):spWord K CM CF vs H Q E
 | fine (m pd fl cd p pr pt nd bd l:Addr)(fps:List Addr)(g:Int)(rc:Str)(v0 v1 v2 v3 v4:V)(pp:Pre)(k:Nat)(ts:List Addr)(h0:vs=[.ref m])(h1:MaAt CM CF H m pd fl cd p pr pt nd fps g false rc)(h2:H pr=some (.tup [v0,v1,v2,v3,v4,.ref bd]))(h3:SqT K H pt ((flat pp++[(k:Int)]).map V.int))(h4:LFrom H bd pp l)(h5:pp.length<=100)(h6:H l=some (.lst (ts.map V.ref)))(q:∀H',Same H H'->Q (.str (if k<ts.length then "on" else "end")) H'):spWord K CM CF vs H Q E
theorem aby(C:Con K mg w)(T:TxM K mg j r)(U:TxF K mg i u)(F:Fun K "held" "Machine.held" a86 f fd):FnOk P w K mg base CX0 1 f fd ["self"] (a75 j i):=by
 refine F.okA ["self"] fun n A outer t H vs Q E o h nd=>?_;obtain⟨m,s,k,cd,p,pr,pt,e,l,g,b,rc,kvs,rfl,⟨⟨dx,fs,hm,a⟩,hfl,⟨c,fs',hp,d,_⟩⟩,hn,q⟩:=h;refine⟨_,(fz (gu (i6 m5 rfl C.dict BG (jf (i4 (K:=K) rfl (gx l8 (i4 (K:=K) rfl (qv 0)) (jv jl fu) (fun _ _=>rfl))) ad)))),?_⟩;rw[Au] at hfl;exact⟨_,rfl,m,j,dx,fs,_,rfl,hm,T.cl,T.nF,a.frames,_,rfl,k,_,_,_,rfl,rfl,SqL.of hfl,jd,p,i,c,fs',_,rfl,hp,U.cl,U.nN,d.numbers,e,kvs,rfl,hn,q⟩
theorem ac4(C:Con K mg w)(T:TxM K mg c i)(F:Fun K "heap" "Machine.heap" a78 f fd):FnOk P w K mg base CX0 1 f fd ["self"] (a7l c):=by
 refine F.okA ["self"] fun d A outer k H vs Q E e h nd=>?_;obtain⟨m,dx,j,l,cd,fs,g,b,kvs,rfl,hm,a,hc,q⟩:=h;refine⟨_,(fz (gu (i6 m5 rfl C.dict BG (jf (i4 (K:=K) rfl (qv 0)) ad)))),?_⟩;exact⟨_,rfl,m,c,dx,fs,_,rfl,hm,T.cl,T.nC,a.cells,cd,kvs,rfl,hc,q⟩
theorem ad4(C:Con K mg w)(T:TxM K mg i Y)(U:TxF K mg o Z)(F:Fun K "word" "Machine.word" a6f f fd)(N:FnOk P w K mg base CX0 4 I R ["self"] (vt K o))(x:MCal K o "deed" I R ["self"]):FnOk P w K mg base CX0 5 f fd ["self"] (spWord K i o):=by
 refine F.okA ["self"] fun S A outer X H vs Q E y h nd=>?_;refine⟨_,fw (ie (a29 (i4 (K:=K) rfl (qv 0))) (fz (gu i7)) iq)
  (fz (gu (mz (gi a2i (jj (gx l8 (i4 (K:=K) rfl (qv 0)) (jv jl fu) (fun _ _=>rfl)) U.cl x.meth N y x.bind .nil im) oq (gn _)) i7 i7))),?_⟩
 rcases h with⟨m,dx,J,v,cd,fs,g,rfl,hm,a,q⟩|⟨m,J,v,cd,p,pr,pt,s,bd,l,O,g,rc,W,L,D,G,M,pp,k,ts,rfl,⟨⟨dx,fs,hm,a⟩,hfl,⟨b,fs',hp,d,_⟩⟩,hpr,hpt,r,j,u,q⟩
 . exact⟨_,rfl,m,i,dx,fs,_,rfl,hm,T.cl,T.nL,a.fallen,_,rfl,iteB (fun _=>q) (fun c=>by cases c)⟩
 . refine⟨_,rfl,m,i,dx,fs,_,rfl,hm,T.cl,T.nL,a.fallen,_,rfl,iteB (fun c=>by cases c) (fun _=>?_)⟩;rw[Au] at hfl;refine⟨_,rfl,m,i,dx,fs,_,rfl,hm,T.cl,T.nF,a.frames,_,rfl,v,_,_,_,rfl,rfl,SqL.of hfl,jd,p,b,fs',rfl,hp,d.meth _ (by simp),?_⟩;refine⟨p,b,pr,pt,s,bd,fs',rc,W,L,D,G,M,rfl,hp,d,hpr,?_⟩;refine⟨bd,pt,l,pp,k,ts,rfl,hpt,r,j,u,fun t H' ht e=>?_,fun H' hn e=>?_⟩
   . have n:=(Aw.mp ht).1;have:=q H' e;rw[if_pos n] at this;exact⟨rfl,_,rfl,iteB (fun c=>by cases of_decide_eq_true c) (fun _=>this)⟩
   . have n:¬ k<ts.length:=fun z=>by rw[Ag z] at hn;cases hn
     have:=q H' e;rw[if_neg n] at this;exact⟨rfl,_,rfl,iteB (fun _=>this) (fun c=>absurd rfl (of_decide_eq_false c))⟩
end K56
namespace L2
open PySem PySem.Spec PyProof.Rows
theorem a8h{St:Nat->Heap->Prop}(W:Walks prog w A.in1 I X T n P St)(d:Nat->Nat->Bool)(H:CmpOf prog w A.in1 .Gt P d)(S:Addr)(E:S∉X)(Y:List (Str×Value)):
 ∀(k j:Nat) (s:Shared) (m:Value) (c:Nat),n - (j+1)=k->j+1<=n->St (j+1) s.heap->P (argBest d j) m->s.heap.get? S=some { cls:=.type "list",data:=.seq #[m,m] c }->
   (∀(v:Value) (h':Heap) (tk:Nat),P (argBest d (n - 1)) v->(∀(b:Addr) (o:Obj),b∉T->b≠S->s.heap.get? b=some o->h'.get? b=some o)->R (.ok (.ret v)) { heap:=h',gens:=s.gens,drawn:=s.drawn,toks:=tk,os:=s.os })->
   codeAny (model prog w) A (.builtin "max.loop" ⟨[.ref I,.none,.ref S],Y⟩) R s:=by
 have G:S∉T:=fun h=>E (W.sub S h);have N:toString "max" ++ toString ".loop" = "max.loop" := by decide
 have s0:(#[]:Array Value).size<=sizeLine+1:=by decide
 have U:∀v:Value,(#[v,v]:Array Value).size<=sizeLine:=fun v=>show 2<=sizeLine by decide
 have O:∀v:Value,(#[v,v]:Array Value).size<=sizeLine+1:=fun v=>show 2<=sizeLine+1 by decide
 intro k;induction k with
 | zero =>
  intro j s m c Z hj t q D J;have C:n=j+1:=by lia
  refine BI Gw ?_;rw[Bw CP];refine Aa (Bl D rfl ?_);refine Aa (Dr (W.done s _ _ (C ▸ t) fun h' tk f=>?_));have p:=f S _ G D;refine Aa (Ej p rfl (Aa (DJ (Ae (J m _ tk ?_ ?_)))) (U m) s0)
  . rw[C];exact q
  . intro b o a g e;exact (Bv _ _ (AL g)).trans (f b o a e)
 | succ k ih =>
  intro j s m c Z hj t q D J;have u:j+1<n:=by lia
  refine BI Gw ?_;rw[Bw CP];refine Aa (Bl D rfl ?_);refine Aa (Dr (W.item (j+1) s _ _ u t fun v h' tk Q r f=>?_));have p:=f S _ G D;refine Aa (Ae (Aa (Dr (AX (Aa (H (j+1) (argBest d j) v m _ _ _ Q q (Aa (AX (BY (Aa (DJ (Ae ?_))))))))))));show wpAny _ _ (if d (j+1) (argBest d j)=true then _ else _) _ _ _;cases hb:d (j+1) (argBest d j) with
  | false =>
   rw[if_neg Ai];refine Aa (DJ (Ae ?_));refine⟨BS CP _,ih (j+1) _ m c (by lia) u r ?_ p fun L x l y i=>J L x l y fun b o a g e=>i b o a g (f b o a e)⟩;show P (if d (j+1) (argBest d j)=true then j+1 else argBest d j) m;rw[hb,if_neg Ai];exact q
  | true =>
   rw[if_pos rfl];refine Aa (Ej p rfl (Aa (DJ (Ae ?_))) (U m) (O v));refine⟨BS CP _,ih (j+1) _ v _ (by lia) u (W.frame (j+1+1) h' _ r fun b M o e=>(Bv _ _ (show S≠b from fun z=>E (by rw[z];exact M))).trans e) ?_ (B7 _ p rfl) fun L x l y i=>J L x l y fun b o a g e=>i b o a g ((Bv _ _ (AL g)).trans (f b o a e))⟩;show P (if d (j+1) (argBest d j)=true then j+1 else argBest d j) v;rw[hb,if_pos rfl];exact Q
theorem a5r{St:Nat->Heap->Prop}(W:Walks prog w A.in1 I L C n P St)(E:Nat->Nat->Bool)(q:CmpOf prog w A.in1 .Gt P E)(S:Addr)(f:S∉L)(x:Str)(d:Value)(k:St 0 s.heap)(J:s.heap.get? S=some { cls:=.type "list",data:=.seq #[] c })(G:n=0->∀(h':Heap) (tk:Nat),(∀(b:Addr) (o:Obj),b∉C->s.heap.get? b=some o->h'.get? b=some o)->R (.ok (.ret d)) { heap:=h',gens:=s.gens,drawn:=s.drawn,toks:=tk,os:=s.os })(Q:0<n->∀(v:Value) (h':Heap) (tk:Nat),P (argBest E (n - 1)) v->(∀(b:Addr) (o:Obj),b∉C->b≠S->s.heap.get? b=some o->h'.get? b=some o)->R (.ok (.ret v)) { heap:=h',gens:=s.gens,drawn:=s.drawn,toks:=tk,os:=s.os }):
 codeAny (model prog w) A (.builtin "max.loop" ⟨[.ref I,.none,.ref S],[(x,d)]⟩) R s:=by
 have u:S∉C:=fun h=>f (W.sub S h);have N:(#[]:Array Value).size<=sizeLine:=by decide
 have H:∀v:Value,(#[v,v]:Array Value).size<=sizeLine+1:=fun v=>show 2<=sizeLine+1 by decide
 refine BI Gw ?_;rw[Bw CP];refine Aa (Bl J rfl ?_);by_cases hn:0<n
 . refine Aa (Dr (W.item 0 s _ _ hn k fun v h' tk O p a=>?_));have r:=a S _ u J;refine Aa (Ae (Aa (Ej r rfl (Ae ?_) N (H v))));refine⟨BS CP _,a8h W E q S f _ (n - (0+1)) 0 _ v _ rfl hn (W.frame (0+1) h' _ p fun b t o e=>(Bv _ _ (show S≠b from fun z=>f (by rw[z];exact t))).trans e) O (B7 _ r rfl) fun M y i D g=>Q hn M y i D fun b o m l e=>g b o m l ((Bv _ _ (AL l)).trans (a b o m e))⟩
 . have j:n=0:=by lia
   refine Aa (Dr (W.done s _ _ (by rw[j];exact k) fun h' tk a=>?_));exact Aa (Cz (Ae (G j h' tk a)))
theorem a2j(h:wpAny (model prog w) A.in1 (pyIter x) (fun it a=>∃I i j n P St k,it=.ref I/\Walks prog w A.in1 I i j n P St/\St 0 a.heap/\(∀b∈i,b<a.heap.objs.size)/\CmpOf prog w A.in1 .Gt P k/\
 (n=0->∀(h':Heap) (tk:Nat),(∀(b:Addr) (o:Obj),b∉j->a.heap.get? b=some o->h'.get? b=some o)->Q d { heap:=h',gens:=a.gens,drawn:=a.drawn,toks:=tk,os:=a.os })/\
 (0<n->∀(v:Value) (h':Heap) (tk:Nat),P (argBest k (n - 1)) v->(∀(b:Addr) (o:Obj),b∉j->a.heap.get? b=some o->h'.get? b=some o)->Q v { heap:=h',gens:=a.gens,drawn:=a.drawn,toks:=tk,os:=a.os })) E s):
 wpAny (model prog w) A (call (.builtin "max") [x] [("default",d)]) Q E s:=by
 have ha:argsOk "max" ⟨[x],[("default",d)]⟩:=rfl;have f:checkBuiltinCall "max" ⟨[x],[("default",d)]⟩=pure ():=by
  unfold checkBuiltinCall;rw[F.kind_max];unfold argsOk at ha;cases hs:Manifest.signature? "max" with
  | none=>rfl
  | some sig=>rw[hs] at ha;exact ha
 refine HX (DY F.plain_max F.entry_max ?_);rw[f];refine Ae ?_;have hb:Builtin.Builtins.bindParams "max" ["key","default"] 0 ⟨[],[("default",d)]⟩=pure [none,some d]:=rfl;refine Aa (EM hb ?_);refine Aa (Ae (Aa (thn h fun it a r=>?_)));obtain⟨I,i,j,n,P,St,k,rfl,W,l,m,g,h0,q⟩:=r;have p:a.heap.objs.size∉i:=fun z=>Bx _ (m _ z);refine Aa (AZ (Ae ?_) (show 0<=sizeLine by decide));refine⟨BS CP _,a5r W k g a.heap.objs.size p _ d (W.frame 0 a.heap _ l fun b _ o e=>Ab _ e) (An _ rfl) (fun hn h' tk f=>?_) (fun hn v h' tk t f=>?_)⟩
 . exact h0 hn h' tk fun b o c e=>f b o c (Ab _ e)
 . exact q hn v h' tk t fun b o c e=>f b o c (AA (As e)) (Ab _ e)
def a4v(K:Ac):R2:=fun x y H Q=>∃(a:Addr) (ns:List Int) (d:Int),x=.ref a/\y=.int d/\SqL K H a (ns.map V.int)/\(ns=[]->Q (.int d) H)/\∀M∈ns,(∀n∈ns,n<=M)->Q (.int M) H
theorem acx{K:Ac}(hK:X.K=K)(hc:X.calm=true)(hg:Gl X "max")(hm:X.mg "max" = none)(ha:QE X e Z)(hd:QE X c J)(z:(backToKw pos (keywordEach [⟨some "default",c,f⟩] X.env)).all (·.1.isSome)=true:=by rfl)(F:(backToKw pos (keywordEach [⟨some "default",c,f⟩] X.env)).filterMap (·.1)=[("default" : Str)]:=by rfl)(he:starEach [e] X.env=(false,eval e X.env)::starEach [] X.env:=by rfl)(M:(backTo pos (starEach [e] X.env)).any (·.1)=false:=by rfl)(O:(backToKw pos (keywordEach [⟨some "default",c,f⟩] X.env)).any (·.1.isNone)=false:=by rfl):
 QE X (.Call (.Name "max" p) [e] [⟨some "default",c,f⟩] pos) (tOp (a4v K) Z J):=by
 subst hK;refine⟨?_⟩;intro k s σ H Q I h;refine DB (nz I hg hm HS ?_ (by decide) (by decide));refine PyProof.Rows.callWith_builtin_kwB M O (PyProof.Rows.evalArgs_kw2 z ?_ he);have A1:PA X [e] (ip Z tNil):=jx ha.run oz he;have K1:PK X [⟨some "default",c,f⟩] (ip J tNil):=acy hd.run adx;refine thn (A1 pos k s σ H (fun xs S=>match xs with | [x]=>J σ S fun y l=>a4v X.K x y l Q|_=>False) I h) fun us s1 ⟨vs,S,I1,r,q⟩=>?_;obtain⟨x,rfl⟩:∃x,vs=[x]:=by
  match vs,q with
  | [x],_=>exact⟨x,rfl⟩
 refine thn (K1 pos k s1 σ S (fun ys l=>match ys with | [y]=>a4v X.K x y l Q|_=>False) I1 q) fun ws L ⟨zs,l,D,rz,Y⟩=>?_;obtain⟨y,rfl⟩:∃y,zs=[y]:=by
  match zs,Y with
  | [y],_=>exact⟨y,rfl⟩
 obtain⟨a,ns,d,rfl,rfl,hq,q0,q1⟩:=Y;rw[F];obtain⟨u,rfl,ru⟩:=r.one;cases ru;obtain⟨u2,rfl,t2,rfl⟩:=rz.one;show wpAny _ _ (call (.builtin "max") [.ref a] [("default",.int d t2)]) _ _ _;obtain⟨its,T,G,_⟩:=D.list hq;have hl:its.length=ns.length:=by have:=T.length;rw[Ad] at this;lia
 have C:∀(i:Nat) (v:Value),its.toArray[i]? = some v->∃t,v=.int (ns.getD i 0) t:=fun i v E=>by
  have w:its[i]? = some v:=by simpa using E
  have hi:i<ns.length:=by rw[<- hl];exact (Aw.mp w).1
  obtain⟨w',U,P⟩:=T.get (show (ns.map V.int)[i]? = some (.int ns[i]) by rw[Am,Ag hi];rfl);rw[w] at U;cases U;obtain⟨t,rfl⟩:=P;exact⟨t,by rw[BF,Ag hi];rfl⟩
 have m:a<L.heap.objs.size:=by obtain⟨o,ho,_⟩:=G.isList;exact As ho
 refine a2j (Cp G.isList ⟨L.heap.objs.size,_,_,_,_,_,fun i j=>decide (ns.getD i 0>ns.getD j 0),rfl,Ic (show X.A.in1.handled=none from D.ok.hd hc) L.heap.objs.size a (AA m) its.toArray,⟨?_,?_⟩,fun b hb=>?_,JH (fun i=>ns.getD i 0) C,fun hn h' tk N=>?_,fun hn v h' tk E N=>?_⟩)
 . exact⟨_,An _ rfl,rfl,rfl⟩
 . exact G.isList.push _
 . rw[Bj];simp only[Ah,Ay,or_false] at hb;rcases hb with rfl|rfl
   . exact Ci _
   . exact Cr m
 . rw[Aq] at hn;refine⟨.int d,l,D.kept (t':=tk) fun b o g=>N b o (by simp only[Ah,Ay,or_false];exact AA (As g)) (Ab _ g),⟨t2,rfl⟩,q0 (B0 (by lia))⟩
 . obtain⟨t,rfl⟩:=C _ _ E;have hb:=argBest_gt (fun i=>ns.getD i 0) (its.toArray.size - 1);rw[Aq] at hb E hn;have hi:argBest (fun i j=>decide (ns.getD i 0>ns.getD j 0)) (its.length - 1)<ns.length:=by have:=hb.1;lia
   refine⟨.int _,l,D.kept (t':=tk) fun b o g=>N b o (by simp only[Ah,Ay,or_false];exact AA (As g)) (Ab _ g),⟨t,rfl⟩,q1 _ ?_ fun n R=>?_⟩
   . rw[Aq,BF,Ag hi];exact C0 hi
   . obtain⟨j,hj,rfl⟩:=Ef R;have:=hb.2 j (by lia);rw[BF,Ag hj] at this;rw[Aq];simpa using this
theorem xk(hc:X.calm=true):MtR X "str.index" (fun x vs H Q=>∃z y,x=.str z/\vs=[.str y]/\0<=JL z y/\Q (.int (JL z y)) H):=by
 intro a s σ H x vs v us Q I c b h;obtain⟨z,y,rfl,rfl,hz,q⟩:=h;obtain⟨t,rfl⟩:=c;obtain⟨u,rfl,d⟩:=b.one;obtain⟨t2,rfl⟩:=d;refine index_or (I.ok.hd hc) (fun hn=>absurd hz (by lia)) fun _ _=>⟨.int _,H,I.tok _,⟨_,rfl⟩,q⟩
def AlV(K:Ac)(H:Hp)(v v':V):Prop:=(abe v=true/\v'=v)\/∃d,Dp K H v d/\Dp K H v' d/\EqOk d
inductive rNeAl(K:Ac)(x y:V)(H:Hp)(Q:VK):Prop
 | mk (a b:Addr)(kvs kws:List (Key×V))(h1:x=.ref a)(h2:y=.ref b)(h3:H a=some (.dK kvs))(h4:H b=some (.dK kws))(h5:kvs.length=kws.length)(h6:∀k v,valV kvs k=some v->∃v',valV kws k=some v'/\AlV K H v v')(q:Q (.bl false) H):rNeAl K x y H Q
theorem a3p{K:Ac}(hK:X.K=K)(R:X.A.units+32<cLine):OpR X (compareOp .NotEq) (rNeAl K):=by
 subst hK;intro o s σ H x y v u Q I C E h;obtain⟨a,b,kvs,L,rfl,rfl,ha,hb,i,hs,q⟩:=h;cases C;cases E;obtain⟨z,G,m,n,f⟩:=o6 I.hok (.inl ha);obtain⟨_,J,t,w,j⟩:=o6 I.hok (.inl hb);have hl:m.length=t.length:=by rw[<- n.length,<- w.length];exact i
 refine PySem.W.keq_ne (r:=true) G J f j (by lia) (fun _=>?_) ⟨.bl false,H,I,?_,q⟩
 . refine a17 m fun p hp=>?_;have D:=xj (k:=p.1) (v:=p.2) (a57 f) hp;have c:=n.val p.1;have e:=w.val p.1;rw[D] at c;cases hv:valV kvs p.1 with
   | none=>rw[hv] at c;exact c.elim
   | some v =>
    rw[hv] at c;obtain⟨P,l,N⟩:=hs _ _ hv;rw[l] at e;cases hy:valueAt t p.1 with
    | none=>rw[hy] at e;exact e.elim
    | some y =>
     rw[hy] at e;refine⟨y,rfl,?_⟩;rcases N with⟨g,rfl⟩|⟨d,g,F,ok⟩
     . exact aam g c e
     . obtain⟨as,O⟩:=Dp.reads I g c;obtain⟨bs,M⟩:=Dp.reads I F e;have:=SeqAt.eqAt_reads d d X.A.in1 s p.2 y as bs O M ok.1 ok.1 (by have:=ok.2;have:X.A.in1.units=X.A.units+1:=rfl;rw[IR];lia);rw[J9 d ok.1] at this;exact this
 . rw[hl];simp[RelV]
def a7x(K:Ac):R2:=fun x y H Q=>∃a b xs ys,x=.ref a/\y=.ref b/\SqT K H a xs/\SqT K H b ys/\xs≠[]/\ys≠[]/\xs.length+ys.length<=sizeLine/\∀p,H p=none->Q (.ref p) (upd H p (.tup (xs++ys)))
theorem vc{K:Ac}(hK:X.K=K):OpR X (binaryOp .Add) (a7x K):=by
 subst hK;intro c s σ H x y v u Q I e g h;obtain⟨a,b,xs,ys,rfl,rfl,ha,hb,f,d,hz,q⟩:=h;exact vp c s σ H (.ref a) (.ref b) v u Q I e g ⟨a,b,xs,ys,rfl,rfl,ha,hb,f,hz,fun z=>absurd z d,fun _ p hp=>q p hp⟩
theorem xv{K:Ac}(hK:X.K=K):SlR X (a0y K):=by subst hK;exact og
theorem mr:jz X (.type "int") (fun xs H Q=>∃b:Bool,xs=[.bl b]/\Q (.int (if b=true then 1 else 0)) H):=by
 intro a s σ H xs us Q I r h;obtain⟨b,rfl,q⟩:=h;obtain⟨u,rfl,c⟩:=r.one;cases c;exact PySem.call_int_bool ⟨.int _,H,I.tok _,⟨_,rfl⟩,q⟩
theorem ace{K:Ac}(hK:X.K=K):OpR X (compareOp .In) (rIn K false):=by subst hK;exact rf
theorem a13{K:Ac}(hK:X.K=K)(hl:QE X l tl):QI X a l (a50 K tl):=by subst hK;exact mh hl
theorem a3s{K:Ac}(hK:X.K=K)(hl:QE X l tl):QI X a l (iTup K tl):=by subst hK;exact ae2 hl
theorem qw{K:Ac}(hK:X.K=K):SlR X (rSlL K):=by subst hK;exact acv
inductive rMaxL(K:Ac)(vs:List V)(H:Hp)(Q:VK):Prop
 | mk (a:Addr)(ns:List Int)(h0:vs=[.ref a])(h1:SqL K H a (ns.map V.int))(h2:ns≠[])(q:∀M∈ns,(∀n∈ns,n<=M)->Q (.int M) H):rMaxL K vs H Q
theorem a8c{K:Ac}(hK:X.K=K)(hc:X.calm=true):jz X (.builtin "max") (rMaxL K):=by
 subst hK;intro b s σ H vs us Q I r g;obtain⟨a,ns,e,f,d,c⟩:=g;exact a0s hc b s σ H vs us Q I r ⟨a,ns,e,f,d,c⟩
theorem af6(b:β)(f:Nat->β->Sem (ForInStep β)):forIn [:min 2 2] b f=(do
 match<-f 0 b with
 | .done r=>pure r
 | .yield r =>
  match<-f 1 r with
  | .done r=>pure r
  | .yield r=>pure r):=by
 rw[Std.Legacy.Range.forIn_eq_forIn_range'];show forIn [0,1] b f=_;simp only[DE,DT];rfl
theorem a07(K:Ac)(hK:X.K=K):MtR X "tuple.index" (fun a vs H Q=>∃p x y z,a=.ref p/\vs=[.str z]/\SqT K H p [.str x,.str y]/\x≠y/\((z=x/\Q (.int 0) H)\/(z=y/\Q (.int 1) H))):=by
 subst hK;intro f s σ H a vs v us Q I k g h;obtain⟨p,x,y,z,rfl,rfl,hp,d,h⟩:=h;cases k;obtain⟨u,rfl,t,rfl⟩:=g.one;obtain⟨its,r,ht,_⟩:=I.tuple hp;obtain⟨b,c,rfl,⟨t1,rfl⟩,⟨t2,rfl⟩⟩:∃b c,its=[b,c]/\RelV (.str x) b/\RelV (.str y) c:=by
  cases r with
  | cons a1 b1=>cases b1 with
   | cons a2 b2=>cases b2;exact⟨_,_,rfl,a1,a2⟩
 obtain⟨o,j,hc,n,hd⟩:=id ht;refine Bp Ey ht.typeIs PySem.F.entry_tuple_index ?_ (PySem.F.args_tuple_index_2 _ _);refine Aa (EM (show selfAndSome "tuple.index" "index" 1 3 ⟨[.ref p,.str z t],[]⟩=pure (.ref p,[.str z t]) from rfl) ?_);refine Aa (wpAny_tupleItemsOf j hd ?_);refine Aa (Ae (Aa (Ae ?_)));have e:=Eo (A:=X.A.in1) (s:=s) x t1 z t;have i:=Eo (A:=X.A.in1) (s:=s) y t2 z t;show wpAny _ _ ((forIn [0:min 2 2] _ _) >>= _) _ _ _;rw[af6];rcases h with⟨rfl,q⟩|⟨rfl,q⟩
 . refine Aa (Aa (Aa (e _ _ _ _ ?_)));rw[beq_self_eq_true,if_pos rfl];exact Aa (Aa (wpAny_mkInt (Ae (Ae (Ae (Ae ⟨_,rfl,.int 0,H,I.tok _,⟨_,rfl⟩,q⟩))))))
 . refine Aa (Aa (Aa (e _ _ _ _ ?_)));rw[beq_false_of_ne d,if_neg Ai];refine Ae (Aa (Aa (i _ _ _ _ ?_)));rw[beq_self_eq_true,if_pos rfl];exact Aa (Aa (wpAny_mkInt (Ae (Ae (Ae (Ae ⟨_,rfl,.int 1,H,I.tok _,⟨_,rfl⟩,q⟩))))))
end L2
namespace K56
open PySem PySem.Spec L2 Mir
def numV(kvs:List (Key×V))(x:Str):Option V:=if x = "nil" then some (.int 0) else valV kvs (Sum.inr x)
theorem l9(c:H d=some (.dK kvs))(a:numV kvs x=some v)(q:Q v H):spNumOf [.ref d,.str x] H Q E:=by
 unfold numV at a;by_cases b:x = "nil"
 . rw[if_pos b] at a;cases a;exact .nil d (by rw[b]) q
 . rw[if_neg b] at a;exact .name d kvs x v rfl b c a q
inductive spChange(K:Ac)(CM CF:Addr)(vs:List V)(H:Hp)(Q:VK)(E:XK):Prop
 | set (m p dx pr pt nd t:Addr)(fs:List (Str×V))(rc x y:Str)(kvs:List (Key×V))(v:V)(h0:vs=[.ref m,.ref p,.ref t])(h1:H p=some (.ins CF dx fs))(h2:FFs fs pr pt nd rc)(h3:H t=some (.tup [.str "set",.str x,.str y]))(h4:H nd=some (.dK kvs))(h5:kvs.length<=100)(h6:numV kvs y=some v)(q:Q .non (upd H nd (.dK (putK kvs (Sum.inr x) v)))):spChange K CM CF vs H Q E
 | free (m p dm dx pr pt nd pd fl cd t:Addr)(fm fs:List (Str×V))(rc x:Str)(g:Int)(b:Bool)(kvs cvs:List (Key×V))(i:Int)(c:V)(h0:vs=[.ref m,.ref p,.ref t])(hm:H m=some (.ins CM dm fm))(hM:MFs fm pd fl cd g b)(h1:H p=some (.ins CF dx fs))(h2:FFs fs pr pt nd rc)(h3:H t=some (.tup [.str "free",.str x]))(h4:H nd=some (.dK kvs))(h6:numV kvs x=some (.int i))(h7:H cd=some (.dK cvs))(h8:valV cvs (Sum.inl i)=some c)(q:Q .non (upd H cd (.dK (rq cvs (Sum.inl i))))):spChange K CM CF vs H Q E
 | new (m p dm dx pr pt nd pd fl cd t:Addr)(fm fs:List (Str×V))(rc x y z:Str)(g:Int)(b:Bool)(kvs cvs:List (Key×V))(v1 v2:V)(h0:vs=[.ref m,.ref p,.ref t])(hm:H m=some (.ins CM dm fm))(hM:MFs fm pd fl cd g b)(hl:fm.length<50)(hne:m≠p)(hnc:nd≠cd)(h1:H p=some (.ins CF dx fs))(h2:FFs fs pr pt nd rc)(h3:H t=some (.tup [.str "new",.str x,.str y,.str z]))(h4:H nd=some (.dK kvs))(h5:kvs.length<=100)(h6:numV kvs y=some v1)(h6':numV kvs z=some v2)(h7:H cd=some (.dK cvs))(h8:cvs.length<=900)(q:∀c,H c=none->Q .non (upd (upd (upd (upd H c (.tup [v1,v2])) m (.ins CM dm (putF "greatest" (.int (g+1)) fm))) cd (.dK (putK cvs (Sum.inl (g+1)) (.ref c)))) nd (.dK (putK kvs (Sum.inr x) (.int (g+1)))))):spChange K CM CF vs H Q E
 | read (m p dm dx pr pt nd pd fl cd t c:Addr)(fm fs:List (Str×V))(rc x y fld:Str)(g:Int)(b:Bool)(kvs cvs:List (Key×V))(i:Int)(v0 v1 v:V)(h0:vs=[.ref m,.ref p,.ref t])(hm:H m=some (.ins CM dm fm))(hM:MFs fm pd fl cd g b)(h1:H p=some (.ins CF dx fs))(h2:FFs fs pr pt nd rc)(h3:H t=some (.tup [.str "read",.str x,.str y,.str fld]))(h4:H nd=some (.dK kvs))(h5:kvs.length<=100)(h6:numV kvs y=some (.int i))(h7:H cd=some (.dK cvs))(h8:valV cvs (Sum.inl i)=some (.ref c))(h9:SqT K H c [v0,v1])(h10:(fld = "first" /\ v=v0)\/(fld = "second" /\ v=v1))(q:Q .non (upd H nd (.dK (putK kvs (Sum.inr x) v)))):spChange K CM CF vs H Q E
 | write (m p dm dx pr pt nd pd fl cd t c:Addr)(fm fs:List (Str×V))(rc y fld z:Str)(g:Int)(b:Bool)(kvs cvs:List (Key×V))(i:Int)(v0 v1 v w0 w1:V)(h0:vs=[.ref m,.ref p,.ref t])(hm:H m=some (.ins CM dm fm))(hM:MFs fm pd fl cd g b)(h1:H p=some (.ins CF dx fs))(h2:FFs fs pr pt nd rc)(h3:H t=some (.tup [.str "write",.str y,.str fld,.str z]))(h4:H nd=some (.dK kvs))(h6:numV kvs y=some (.int i))(h6':numV kvs z=some v)(h7:H cd=some (.dK cvs))(hl:cvs.length<=900)(h8:valV cvs (Sum.inl i)=some (.ref c))(h9:SqT K H c [v0,v1])(h10:(fld = "first" /\ w0=v/\w1=v1)\/(fld = "second" /\ w0=v0/\w1=v))(q:∀r H',Same H H'->H r=none->H' r=some (.tup [w0,w1])->Q .non (upd H' cd (.dK (putK cvs (Sum.inl i) (.ref r))))):spChange K CM CF vs H Q E
theorem ad0:("procedures" : Str) ≠ "greatest" /\ ("frames" : Str) ≠ "greatest" /\ ("cells" : Str) ≠ "greatest" /\ ("fallen" : Str) ≠ "greatest" := by decide +kernel
theorem ae1:∀m∈nj,m≠("greatest" : Str):=by decide +kernel
theorem MFs.great(h:MFs fs c a cd g b)(hl:fs.length<50)(g':Int):MFs (putF "greatest" (.int g') fs) c a cd g' b:=by
 obtain⟨n1,n2,n3,n4⟩:=ad0;refine⟨?_,?_,?_,?_,?_,?_,fun m hm=>?_⟩
 . rw[gf,if_neg n1];exact h.procedures
 . rw[gf,if_neg n2];exact h.frames
 . rw[gf,if_neg n3];exact h.cells
 . rw[gf,if_pos rfl]
 . rw[gf,if_neg n4];exact h.fallen
 . have:=ir "greatest" (.int g') fs;lia
 . rw[gf,if_neg (ae1 m hm)];exact h.meth m hm
theorem a6v(C:Con K mg w)(T:TxM K mg s fI)(U:TxF K mg M fJ)(F:Fun K "change" "Machine.change" a2a f fd)(Y:FnOk P w K mg base CX0 2 gN dN ["self","word"] (uu M))(D:MCal K M "number" gN dN ["self","word"]):FnOk P w K mg base CX0 3 f fd ["self","frame","deed"] (spChange K s M):=by
 refine F.okA ["self","frame","deed","cell"] fun ay A outer s0 H vs Q E I h nd=>?_;have J:=kx I;obtain⟨aF,gF,hF,oF,lF,cF,dF⟩:=C.fields;refine⟨_,(fz (ie (gi ib (gz K (qv 2) fu) i7 (gn _)) (fz (jy J (i4 (K:=K) rfl (qv 1)) (gz K (qv 2) fu) (jm (qv 1) U.cl D.meth Y I D.bind .nil im (gj (gz K (qv 2) fu) ad)))) (fz (ie (gi ib (gz K (qv 2) fu) i7 (gn _)) (fz (jy J (i4 (K:=K) rfl (qv 1)) (gz K (qv 2) fu) (gz K (ml J (i4 (K:=K) rfl (qv 0)) (jm (qv 1) U.cl D.meth Y I D.bind .nil im (gj (gz K (qv 2) fu) ad)) (fun _ _=>rfl)) (ke (K:=K) rfl Gx Ey Gy (a07 K rfl) (qe_g gF) (gj (gz K (qv 2) fu) ad))))) (fz (ie (gi ib (gz K (qv 2) fu) i7 (gn _)) (fw (gp 3 nd (i6 ji rfl C.list Bh (gj (ml J (i4 (K:=K) rfl (qv 0)) (jm (qv 1) U.cl D.meth Y I D.bind .nil im (gj (gz K (qv 2) fu) ad)) (fun _ _=>rfl)) ad)))
  (fw (pi (jm (qv 1) U.cl D.meth Y I D.bind .nil im (gj (gz K (qv 2) fu) ad)) (yx (qv 3) (ke (K:=K) rfl Gx Ey Gy (a07 K rfl) (qe_g gF) (gj (gz K (qv 2) fu) ad)) ui))
  (fz (jy J (i4 (K:=K) rfl (qv 0)) (jm (qv 1) U.cl D.meth Y I D.bind .nil im (gj (gz K (qv 2) fu) ad)) (i6 q5 rfl C.tuple EE (fy (qv 3) ad)))))) (fz (ie (gi ib (gz K (qv 2) fu) i7 (gn _)) (fw (gp 3 nd (je (gw (jm (qv 1) U.cl D.meth Y I D.bind .nil im (gj (gz K (qv 2) fu) ad)) (gw (jm (qv 1) U.cl D.meth Y I D.bind .nil im (gj (gz K (qv 2) fu) ad)) ad))))
  (fw (kq (K:=K) rfl (qv 0) (gh ij (i4 (K:=K) rfl (qv 0)) fu))
  (fw (jy J (i4 (K:=K) rfl (qv 0)) (i4 (K:=K) rfl (qv 0)) (qv 3))
  (fz (jy J (i4 (K:=K) rfl (qv 1)) (gz K (qv 2) fu) (i4 (K:=K) rfl (qv 0))))))) (fz (ik (aaq (i4 (K:=K) rfl (qv 0)) (jm (qv 1) U.cl D.meth Y I D.bind .nil im (gj (gz K (qv 2) fu) ad))))))))))))),?_⟩
 rcases h with⟨m,p,dx,pr,pt,d,t,fs,rc,x,y,kvs,v,rfl,hp,a,ht,hn,hl,X,q⟩|⟨m,p,j,dx,pr,pt,d,pd,fl,cd,t,u,fs,rc,x,g,b,kvs,e,i,c,rfl,hm,R,hp,a,ht,hn,X,hc,L,q⟩|⟨m,p,j,dx,pr,pt,d,pd,fl,cd,t,u,fs,rc,x,y,z,g,b,kvs,e,W,v2,rfl,hm,R,hl,av,ao,hp,a,ht,hn,aw,aq,aa,hc,ar,q⟩|⟨m,p,j,dx,pr,pt,d,pd,fl,cd,t,c,u,fs,rc,x,y,fld,g,b,kvs,e,i,v0,W,v,rfl,hm,R,hp,a,ht,hn,aw,X,hc,L,O,N,q⟩|⟨m,p,j,dx,pr,pt,d,pd,fl,cd,t,c,u,fs,rc,y,fld,z,g,b,kvs,e,i,v0,W,v,w0,w1,rfl,hm,R,hp,a,ht,hn,X,aa,hc,ar,L,O,N,q⟩
 . refine⟨_,rfl,t,_,0,_,rfl,rfl,SqT.of ht,rfl,rfl,_,rfl,iteB (fun _=>?_) (fun c=>absurd c (by decide +kernel))⟩;refine⟨_,rfl,p,dx,fs,rfl,hp,a.meth _ (by simp),_,rfl,t,_,2,_,rfl,rfl,SqT.of ht,rfl,p,dx,pr,pt,d,fs,rc,y,rfl,hp,a,l9 hn X ?_⟩;exact⟨_,rfl,p,M,dx,fs,_,rfl,hp,U.cl,U.nN,a.numbers,_,rfl,t,_,1,_,rfl,rfl,SqT.of ht,rfl,d,_,rfl,DPut.k (k:=Sum.inr x) hn (j6 (by lia)),q⟩
 . refine⟨_,rfl,t,_,0,_,rfl,rfl,SqT.of ht,rfl,rfl,_,rfl,iteB (fun c=>absurd c (by decide +kernel)) (fun _=>?_)⟩;refine⟨_,rfl,t,_,0,_,rfl,rfl,SqT.of ht,rfl,rfl,_,rfl,iteB (fun c=>absurd c (by decide +kernel)) (fun _=>?_)⟩;refine⟨_,rfl,t,_,0,_,rfl,rfl,SqT.of ht,rfl,rfl,_,rfl,iteB (fun c=>absurd c (by decide +kernel)) (fun _=>?_)⟩;refine⟨_,rfl,t,_,0,_,rfl,rfl,SqT.of ht,rfl,rfl,_,rfl,iteB (fun c=>absurd c (by decide +kernel)) (fun _=>?_)⟩;refine⟨_,rfl,m,s,j,u,_,rfl,hm,T.cl,T.nC,R.cells,cd,rfl,.inl ⟨_,.inl hc⟩,?_⟩;refine⟨_,rfl,p,dx,fs,rfl,hp,a.meth _ (by simp),_,rfl,t,_,1,_,rfl,rfl,SqT.of ht,rfl,p,dx,pr,pt,d,fs,rc,x,rfl,hp,a,l9 hn X ?_⟩;exact⟨e,Sum.inl i,c,hc,rfl,L,q⟩
 . refine⟨_,rfl,t,_,0,_,rfl,rfl,SqT.of ht,rfl,rfl,_,rfl,iteB (fun c=>absurd c (by decide +kernel)) (fun _=>?_)⟩;refine⟨_,rfl,t,_,0,_,rfl,rfl,SqT.of ht,rfl,rfl,_,rfl,iteB (fun c=>absurd c (by decide +kernel)) (fun _=>?_)⟩;refine⟨_,rfl,t,_,0,_,rfl,rfl,SqT.of ht,rfl,rfl,_,rfl,iteB (fun c=>absurd c (by decide +kernel)) (fun _=>?_)⟩;refine⟨_,rfl,t,_,0,_,rfl,rfl,SqT.of ht,rfl,rfl,_,rfl,iteB (fun _=>?_) (fun c=>absurd c (by decide +kernel))⟩;refine⟨_,rfl,p,dx,fs,rfl,hp,a.meth _ (by simp),_,rfl,t,_,2,_,rfl,rfl,SqT.of ht,rfl,p,dx,pr,pt,d,fs,rc,y,rfl,hp,a,l9 hn aq ?_⟩;refine⟨_,rfl,p,dx,fs,rfl,hp,a.meth _ (by simp),_,rfl,t,_,3,_,rfl,rfl,SqT.of ht,rfl,p,dx,pr,pt,d,fs,rc,z,rfl,hp,a,l9 hn aa ?_⟩;refine⟨(show 2<=sizeLine by decide),fun c ah=>?_⟩;have G:=gc ah (.tup [W,v2]);have q1:=q c ah;generalize upd H c (.tup [W,v2])=S at G q1 |-;have af:=G _ _ hm;refine⟨_,rfl,m,s,j,u,_,rfl,af,T.cl,T.nG,R.greatest,_,_,rfl,rfl,_,rfl,m,s,j,u,rfl,af,T.cl,T.nG,by lia,?_⟩;have ab:=R.great hl (g+1);have k2:(upd S m (.ins s j (putF "greatest" (.int (g+1)) u))) m=some (.ins s j (putF "greatest" (.int (g+1)) u)):=ft;have al:cd≠m:=fun w=>by rw[w,hm] at hc;cases hc
   have au:d≠m:=fun w=>by rw[w,hm] at hn;cases hn
   have ax:t≠m:=fun w=>by rw[w,hm] at ht;cases ht
   have ap:p≠cd:=fun w=>by rw[w,hc] at hp;cases hp
   have an:t≠cd:=fun w=>by rw[w,hc] at ht;cases ht
   have ac:(upd S m (.ins s j (putF "greatest" (.int (g+1)) u))) cd=some (.dK e):=by rw[fq al];exact G _ _ hc
   have aj:(upd S m (.ins s j (putF "greatest" (.int (g+1)) u))) d=some (.dK kvs):=by rw[fq au];exact G _ _ hn
   have ae:(upd S m (.ins s j (putF "greatest" (.int (g+1)) u))) p=some (.ins M dx fs):=by rw[fq (AL av)];exact G _ _ hp
   have ak:(upd S m (.ins s j (putF "greatest" (.int (g+1)) u))) t=some (.tup [.str "new",.str x,.str y,.str z]):=by rw[fq ax];exact G _ _ ht
   generalize upd S m (.ins s j (putF "greatest" (.int (g+1)) u))=n at k2 ac aj ae ak q1 |-;refine⟨_,rfl,_,rfl,m,s,j,_,_,rfl,k2,T.cl,T.nC,ab.cells,_,rfl,m,s,j,_,_,rfl,k2,T.cl,T.nG,ab.greatest,cd,_,rfl,DPut.k (k:=Sum.inl (g+1)) ac (j6 (by lia)),?_⟩;have k3:(upd n cd (.dK (putK e (Sum.inl (g+1)) (.ref c)))) m=some (.ins s j (putF "greatest" (.int (g+1)) u)):=by rw[fq (AL al)];exact k2
   have ag:(upd n cd (.dK (putK e (Sum.inl (g+1)) (.ref c)))) d=some (.dK kvs):=by rw[fq ao];exact aj
   have am:(upd n cd (.dK (putK e (Sum.inl (g+1)) (.ref c)))) p=some (.ins M dx fs):=by rw[fq ap];exact ae
   have ai:(upd n cd (.dK (putK e (Sum.inl (g+1)) (.ref c)))) t=some (.tup [.str "new",.str x,.str y,.str z]):=by rw[fq an];exact ak
   generalize upd n cd (.dK (putK e (Sum.inl (g+1)) (.ref c)))=H3 at k3 ag am ai q1 |-;exact⟨_,rfl,m,s,j,_,_,rfl,k3,T.cl,T.nG,ab.greatest,_,rfl,p,M,dx,fs,_,rfl,am,U.cl,U.nN,a.numbers,_,rfl,t,_,1,_,rfl,rfl,SqT.of ai,rfl,d,_,rfl,DPut.k (k:=Sum.inr x) ag (j6 (by lia)),q1⟩
 . refine⟨_,rfl,t,_,0,_,rfl,rfl,SqT.of ht,rfl,rfl,_,rfl,iteB (fun c=>absurd c (by decide +kernel)) (fun _=>?_)⟩;refine⟨_,rfl,t,_,0,_,rfl,rfl,SqT.of ht,rfl,rfl,_,rfl,iteB (fun _=>?_) (fun c=>absurd c (by decide +kernel))⟩;refine⟨_,rfl,m,s,j,u,_,rfl,hm,T.cl,T.nC,R.cells,_,rfl,p,dx,fs,rfl,hp,a.meth _ (by simp),_,rfl,t,_,2,_,rfl,rfl,SqT.of ht,rfl,p,dx,pr,pt,d,fs,rc,y,rfl,hp,a,l9 hn X ?_⟩;have hg:=DGet.k (k:=Sum.inl i) hc;rw[L] at hg;refine⟨cd,_,rfl,hg,.inr (.inl ⟨rfl,oF,lF,cF,dF⟩),_,rfl,t,_,3,_,rfl,rfl,SqT.of ht,rfl,aF,"first","second",fld,rfl,rfl,hF _,by decide +kernel,?_⟩;rcases N with⟨Z,rfl⟩|⟨Z,rfl⟩
   . exact .inl ⟨Z,c,_,0,_,rfl,rfl,O,rfl,_,rfl,p,M,dx,fs,_,rfl,hp,U.cl,U.nN,a.numbers,_,rfl,t,_,1,_,rfl,rfl,SqT.of ht,rfl,d,_,rfl,DPut.k (k:=Sum.inr x) hn (j6 (by lia)),q⟩
   . exact .inr ⟨Z,c,_,1,_,rfl,rfl,O,rfl,_,rfl,p,M,dx,fs,_,rfl,hp,U.cl,U.nN,a.numbers,_,rfl,t,_,1,_,rfl,rfl,SqT.of ht,rfl,d,_,rfl,DPut.k (k:=Sum.inr x) hn (j6 (by lia)),q⟩
 . refine⟨_,rfl,t,_,0,_,rfl,rfl,SqT.of ht,rfl,rfl,_,rfl,iteB (fun c=>absurd c (by decide +kernel)) (fun _=>?_)⟩;refine⟨_,rfl,t,_,0,_,rfl,rfl,SqT.of ht,rfl,rfl,_,rfl,iteB (fun c=>absurd c (by decide +kernel)) (fun _=>?_)⟩;refine⟨_,rfl,t,_,0,_,rfl,rfl,SqT.of ht,rfl,rfl,_,rfl,iteB (fun _=>?_) (fun c=>absurd c (by decide +kernel))⟩;refine⟨_,rfl,m,s,j,u,_,rfl,hm,T.cl,T.nC,R.cells,_,rfl,p,dx,fs,rfl,hp,a.meth _ (by simp),_,rfl,t,_,1,_,rfl,rfl,SqT.of ht,rfl,p,dx,pr,pt,d,fs,rc,y,rfl,hp,a,l9 hn X ?_⟩;have hg:=DGet.k (k:=Sum.inl i) hc;rw[L] at hg;refine⟨cd,_,rfl,hg,c,_,rfl,.inr O,fun l hl=>?_⟩;obtain⟨S,z0,G,k1⟩:=gr hl (.lst [v0,W]);dsimp only[gq];rw[z0];refine⟨_,rfl,p,dx,fs,rfl,G _ _ hp,a.meth _ (by simp),_,rfl,t,_,3,_,rfl,rfl,SqT.of (G _ _ ht),rfl,p,dx,pr,pt,d,fs,rc,z,rfl,G _ _ hp,a,l9 (G _ _ hn) aa ?_⟩;have fin:∀n,jq l S n->n l=some (.lst [w0,w1])->∀r,n r=none->Q .non (upd (upd n r (.tup [w0,w1])) cd (.dK (putK e (Sum.inl i) (.ref r)))):=fun n e2 k2 r I=>by
    refine q r _ (fun b o hb=>?_) ?_ ft
    . have nb:b≠l:=g6 hb hl;have:=e2 _ _ (G _ _ hb) nb;rw[fq (g6 this I)];exact this
    . cases hh:H r with
      | none=>rfl
      | some o =>
       have:=e2 _ _ (G _ _ hh) (g6 hh hl);rw[I] at this;cases this
   have tail:∀n,jq l S n->n l=some (.lst [w0,w1])->yj (tFld K (tVar 0) "cells") (sd M "number" (uu M) [] E0 (tVar 1) (ip (tOp (rIxT K) (tVar 2) (tC (.int 1))) tNil)) (tCB (fun xs H Q=>∃p ys,xs=[V.ref p]/\((SqL K H p ys/\∀l,H l=none->Q (.ref l) (upd H l (.tup ys)))\/(SqT K H p ys/\Q (.ref p) H))) (ip (tVar 3) tNil)) { nx:=fun x H'=>Q V.non H',rt:=Q } [some (.ref m),some (.ref p),some (.ref t),some (.ref l)] n:=fun n e2 k2=>by
    refine⟨_,rfl,l,_,rfl,.inl ⟨SqL.of k2,fun r I=>?_⟩⟩;have f:=fin n e2 k2 r I;have e3:∀{b:Addr} {o:HO},H b=some o->(upd n r (.tup [w0,w1])) b=some o:=fun {b o} hb=>by
     have:=e2 _ _ (G _ _ hb) (g6 hb hl);rw[fq (g6 this I)];exact this
    exact⟨_,rfl,m,s,j,u,_,rfl,e3 hm,T.cl,T.nC,R.cells,_,rfl,p,dx,fs,rfl,e3 hp,a.meth _ (by simp),_,rfl,t,_,1,_,rfl,rfl,SqT.of (e3 ht),rfl,p,dx,pr,pt,d,fs,rc,y,rfl,e3 hp,a,l9 (e3 hn) X ⟨cd,_,rfl,DPut.k (k:=Sum.inl i) (e3 hc) (j6 (by lia)),f⟩⟩
   refine⟨_,rfl,.inr (.inl ⟨rfl,oF,lF,cF,dF⟩),_,rfl,t,_,2,_,rfl,rfl,SqT.of (G _ _ ht),rfl,aF,"first","second",fld,rfl,rfl,hF _,by decide +kernel,?_⟩;rcases N with⟨Z,rfl,rfl⟩|⟨Z,rfl,rfl⟩
   . exact .inl ⟨Z,l,_,0,0,rfl,rfl,k1,rfl,tail _ (fun b o hb nb=>by rw[fq nb];exact hb) ft⟩
   . exact .inr ⟨Z,l,_,1,1,rfl,rfl,k1,rfl,tail _ (fun b o hb nb=>by rw[fq nb];exact hb) ft⟩
structure MNew(K:Ac)(CM CF:Addr)(bs:List Nat)(G H:Hp)(m dx:Addr)(pcs:List Prc)(pc:Prc)(j:Nat)(kvs cvs:List (Key×V))(due:Pre×Nat)(ns:List Int)(G1:Hp)(pd fl p dxp q1 nd cd pr bd:Addr)(prs:List Addr)(fsm fs:List (Str×V))(zs:List Str)(g:Int):Prop where
 g1:Same G G1
 gH:Same G1 H
 n1:G1 m=none
 n2:G1 p=none
 n3:G1 nd=none
 n4:G1 cd=none
 n5:G1 fl=none
 nc:nd≠cd
 mp:m≠p
 hps:Paired (PrcAt K G1 bs) prs pcs
 hpr:prs[j]? = some pr
 hpd:G1 pd=some (.dK ((byK (pcs.map (·.name)) prs).map kk))
 hbd:∃v0 v1 v2 v3 v4,G1 pr=some (.tup [v0,v1,v2,v3,v4,.ref bd])
 body:ListX K G1 bs bd pc.body
 hm:H m=some (.ins CM dx fsm)
 mf:MFs fsm pd fl cd g false
 lm:fsm.length<=5
 hfl:H fl=some (.lst [.ref p])
 hp:H p=some (.ins CF dxp fs)
 ff:FFs fs pr q1 nd ""
 lf:fs.length<=4
 hq1:SqT K H q1 ((flat due.1++[(due.2:Int)]).map V.int)
 hnd:H nd=some (.dK ((lj kvs zs).map kk))
 zn:zs.Nodup
 zm:∀y,y∈zs↔i5 y=true/\y∈allW bs pc
 hcd:H cd=some (.dK cvs)
 g0:ns=[]->g=0
 gm:ns≠[]->g∈ns/\∀n∈ns,n<=g
theorem a91:("procedures" : Str) ≠ "frames" /\ ("procedures" : Str) ≠ "cells" /\ ("procedures" : Str) ≠ "greatest" /\ ("procedures" : Str) ≠ "fallen" /\ ("frames" : Str) ≠ "cells" /\ ("frames" : Str) ≠ "greatest" /\ ("frames" : Str) ≠ "fallen" /\ ("cells" : Str) ≠ "greatest" /\ ("cells" : Str) ≠ "fallen" /\ ("greatest" : Str) ≠ "fallen" := by decide +kernel
theorem adj:∀m∈nj,m≠("procedures" : Str)/\m≠("frames" : Str)/\m≠("cells" : Str)/\m≠("greatest" : Str)/\m≠("fallen" : Str):=by decide +kernel
def mf1(pd:Addr):List (Str×V):=putF "procedures" (.ref pd) []
def mf2(pd fl:Addr):List (Str×V):=putF "frames" (.ref fl) (mf1 pd)
def mf3(pd fl cd:Addr):List (Str×V):=putF "cells" (.ref cd) (mf2 pd fl)
def mf4(pd fl cd:Addr)(g:Int):List (Str×V):=putF "greatest" (.int g) (mf3 pd fl cd)
def mf5(pd fl cd:Addr)(g:Int):List (Str×V):=putF "fallen" (.bl false) (mf4 pd fl cd g)
theorem sq(a b cd:Addr)(g:Int):(mf1 a).length<=1/\(mf2 a b).length<=2/\(mf3 a b cd).length<=3/\(mf4 a b cd g).length<=4/\(mf5 a b cd g).length<=5:=by
 have c:=ir "procedures" (.ref a) [];have d:=ir "frames" (.ref b) (mf1 a);have h:=ir "cells" (.ref cd) (mf2 a b);have f:=ir "greatest" (.int g) (mf3 a b cd);have e:=ir "fallen" (.bl false) (mf4 a b cd g);simp only[Ek] at c;unfold mf5 mf4 mf3 mf2 mf1 at*
 lia
theorem aet(b c cd:Addr)(g:Int):MFs (mf5 b c cd g) b c cd g false:=by
 obtain⟨n1,n2,n3,n4,n5,d,j,k,e,a⟩:=a91;refine⟨?_,?_,?_,?_,?_,by have:=sq b c cd g;lia,fun m hm=>?_⟩
 . unfold mf5 mf4 mf3 mf2 mf1;rw[gf,if_neg n4,gf,if_neg n3,gf,if_neg n2,gf,if_neg n1,gf,if_pos rfl]
 . unfold mf5 mf4 mf3 mf2;rw[gf,if_neg j,gf,if_neg d,gf,if_neg n5,gf,if_pos rfl]
 . unfold mf5 mf4 mf3;rw[gf,if_neg e,gf,if_neg k,gf,if_pos rfl]
 . unfold mf5 mf4;rw[gf,if_neg a,gf,if_pos rfl]
 . unfold mf5;rw[gf,if_pos rfl]
 . obtain⟨m1,m2,h,i,f⟩:=adj m hm;unfold mf5 mf4 mf3 mf2 mf1;rw[gf,if_neg f,gf,if_neg i,gf,if_neg h,gf,if_neg m2,gf,if_neg m1];rfl
theorem a1i:∀{ns:List Str}{ts:List Addr}{j:Nat}{n:Str}{t:Addr},ns.Nodup->ns[j]? = some n->ts[j]? = some t->valV ((byK ns ts).map kk) (Sum.inr n)=some (.ref t)
 | [],_,_,_,_,_,h,_=>by simp at h
 | _::_,[],_,_,_,_,_,h=>by simp at h
 | m::ns,u::ts,0,n,t,hn,h1,h2=>by
  simp at h1 h2;subst h1;subst h2;unfold valV byK;simp[kk]
 | m::ns,u::ts,j+1,n,t,hn,h1,h2=>by
  have a:ns[j]? = some n:=by simpa using h1
  have b:ts[j]? = some t:=by simpa using h2
  have ne:m≠n:=fun z=>(AU.mp hn).1 (by rw[z];exact AE a);have c:=a1i (AU.mp hn).2 a b;unfold valV byK at c |-;simp only[CW,Ar,BJ,kk];rw[decide_eq_false (fun z=>ne (DH z))];exact c
theorem scMInit:FnScope ["self","program","name","path","values","heap"] ["self","program","name","path","values","heap"] (iu a2f):=⟨rfl,rfl,rfl,by decide +kernel,rfl,by decide +kernel,by decide +kernel⟩
abbrev ab5:Stmt:=top 33
abbrev sFed:Stmt:=top 34
abbrev a6c:Stmt:=top 35
abbrev a4a:Stmt:=top 36
def wn(c:Int)(k:Nat):Int:=(c % 2147483629*48271+69621*(k:Int)+11) % 2147483587
def vm(c:Int)(k:Nat):Int:=wn c k*(wn c k / 7+39373) % 2147483563
def abf(c:Int)(k:Nat):Int:=vm c k*(vm c k / 5+16807+(k:Int)) % 2147483399
def aay(c:Int)(k:Nat):Int:=(wn c k*2147483563+vm c k)*2147483399+abf c k
def a63:Sp:=fun vs H Q _=>∃(c:Int) (k:Nat),vs=[.int c,.int (k:Int)]/\Q (.int (aay c k)) H
def fedF(c:Int)(k:Nat):Int:=if c % 2=1 then aay (c / 2) k else c / 2
def vn:Sp:=fun vs H Q _=>∃(c:Int) (k:Nat),vs=[.int c,.int (k:Int)]/\∀l,H l=none->Q (.ref l) (upd H l (.lst [.int (fedF c k)]))
def mj:Sp:=fun vs H Q _=>∃(l:Addr) (n:Int) (m:Int),vs=[.ref l,.int m]/\H l=some (.lst [.int n])/\0<m/\m<=10 ^ 60/\Q (.int (n % m)) (upd H l (.lst [.int (n / m)]))
theorem abt(F:Fun K "_law_rich" "_law_rich" ab5 f fd):FnOk P w K mg base CX0 1 f fd ["_law_cell","_law_k"] a63:=by
 refine F.okA ["_law_cell","_law_k","_law_one","_law_two","_law_three"] fun a A outer g H vs Q E b h nd=>?_;obtain⟨c,k,rfl,q⟩:=h;refine⟨_,fw (gp 2 nd (gh jo (gh ij (gh ij (gh qz (gh jo (qv 0) fu) fu) (gh qz fu (qv 1))) fu) fu))
  (fw (gp 3 nd (gh jo (gh qz (qv 2) (gh ij (gh lq (qv 2) fu) fu)) fu))
  (fw (gp 4 nd (gh jo (gh qz (qv 3) (gh ij (gh ij (gh lq (qv 3) fu) fu) (qv 1))) fu))
  (fz (gu (gh ij (gh qz (gh ij (gh qz (qv 2) fu) (qv 3)) fu) (qv 4)))))),?_⟩
 have m1:0<=wn c k:=B8 _ (show (2147483587:Int)≠0 by decide);have m2:wn c k<2147483587:=Bz _ (show (0:Int)<2147483587 by decide);have d:0<=vm c k:=B8 _ (show (2147483563:Int)≠0 by decide);have e:vm c k<2147483563:=Bz _ (show (0:Int)<2147483563 by decide);refine⟨_,rfl,_,_,rfl,rfl,(show (0:Int)<2147483629 by decide),_,_,rfl,rfl,.inr ⟨by decide,by decide⟩,_,rfl,_,_,rfl,rfl,.inl ⟨by decide,by decide⟩,_,_,rfl,rfl,_,_,rfl,rfl,_,_,rfl,rfl,(show (0:Int)<2147483587 by decide),?_⟩;change gq 2 (.int (wn c k)) _ _ _;refine⟨_,rfl,_,rfl,_,_,rfl,rfl,(show CDiv _ 7 from⟨by decide,by decide⟩),_,_,rfl,rfl,_,_,rfl,rfl,.inl ⟨by lia,by lia⟩,_,_,rfl,rfl,(show (0:Int)<2147483563 by decide),?_⟩;change gq 3 (.int (vm c k)) _ _ _;refine⟨_,rfl,_,rfl,_,_,rfl,rfl,(show CDiv _ 5 from⟨by decide,by decide⟩),_,_,rfl,rfl,_,rfl,_,_,rfl,rfl,_,_,rfl,rfl,.inl ⟨by lia,by lia⟩,_,_,rfl,rfl,(show (0:Int)<2147483399 by decide),?_⟩;change gq 4 (.int (abf c k)) _ _ _;exact⟨_,rfl,_,_,rfl,rfl,.inr ⟨by decide,by decide⟩,_,rfl,_,_,rfl,rfl,_,_,rfl,rfl,.inr ⟨by decide,by decide⟩,_,rfl,_,_,rfl,rfl,q⟩
theorem ado(F:Fun K "_law_fed" "_law_fed" sFed f fd)(j:FnOk P w K mg base CX0 1 d g ["_law_cell","_law_k"] a63)(b:Cal K mg "_law_rich" d g ["_law_cell","_law_k"]):FnOk P w K mg base CX0 2 f fd ["_law_cell","_law_k"] vn:=by
 refine F.okA ["_law_cell","_law_k"] fun i A outer l H vs Q E e h nd=>?_;obtain⟨c,k,rfl,q⟩:=h;refine⟨_,fw (ie (gi ib (gh jo (qv 0) fu) fu (gn _)) (fz (gu (i8 (gw (gk j e b (jb (gh lq (qv 0) fu) (fy (qv 1) ad))) ad)))) iq)
  (fz (gu (i8 (jb (gh lq (qv 0) fu) ad)))),?_⟩
 refine⟨_,rfl,_,_,rfl,rfl,(show (0:Int)<2 by decide),rfl,_,rfl,iteB (fun hc=>?_) (fun hc=>?_)⟩
 . have a:c % 2=1:=V.int.inj (of_decide_eq_true hc);unfold fedF at q;rw[if_pos a] at q;exact⟨_,rfl,_,_,rfl,rfl,(show CDiv _ 2 from⟨by decide,by decide⟩),_,rfl,c / 2,k,rfl,(show 1<=sizeLine by decide),q⟩
 . have a:¬ c % 2=1:=fun z=>by rw[decide_eq_true (congrArg V.int z)] at hc;cases hc
   unfold fedF at q;rw[if_neg a] at q;exact⟨_,rfl,_,_,rfl,rfl,(show CDiv _ 2 from⟨by decide,by decide⟩),(show 1<=sizeLine by decide),q⟩
theorem aap(F:Fun K "_law_digit" "_law_digit" a6c f fd):FnOk P w K mg base CX0 1 f fd ["_law_digits","_law_many"] mj:=by
 refine F.okA ["_law_digits","_law_many","_law_found"] fun c A outer e H vs Q E d h nd=>?_;obtain⟨g,n,m,rfl,a,hm,b,q⟩:=h;refine⟨_,fw (gp 2 nd (gh jo (gx l8 (qv 0) fu (fun _ _=>rfl)) (qv 1)))
  (fw (pi (gh aad (gx l8 (qv 0) fu (fun _ _=>rfl)) (qv 1)) (yx (qv 0) fu ui))
  (fz (gu (qv 2)))),?_⟩
 refine⟨_,rfl,g,_,0,.int n,rfl,rfl,SqL.of a,rfl,_,rfl,_,_,rfl,rfl,hm,?_⟩;refine⟨_,rfl,g,_,0,.int n,rfl,rfl,SqL.of a,rfl,_,rfl,_,_,rfl,rfl,⟨hm,b⟩,?_⟩;exact⟨_,rfl,g,[.int n],0,0,rfl,rfl,a,rfl,_,rfl,q⟩
def signsT:Str := "abcdefghijklmnopqrstuvwxyz0123456789"
def sgs:List Nat:=signsT.cps.toList
def lts:List Nat:=sgs.take 26
theorem nh:signsT.length<=sizeLine:=by decide +kernel
theorem wm:sgs.length=36:=by decide +kernel
structure PreOk(pre:List Nat):Prop where
 len:pre.length<=7
 sg:∀c∈pre,c∈sgs
 hd:∀c r,pre=c::r->c∈lts
theorem a6r:∀c∈sgs,ki c=true:=by decide +kernel
theorem a6l:∀c∈lts,ql [c]=true:=by decide +kernel
theorem a30(c:Nat)(r:List Nat):ql (c::r)=ql [c]:=rfl
def sg(t:Nat):Nat:=sgs.getD t 0
def ja(pre:List Nat):Nat:=if pre=[] then 26 else 36
def wd(pre:List Nat)(t:Nat):Str:=⟨(pre++[sg t]).toArray⟩
theorem a2b(h:t<36):sg t∈sgs:=by
 unfold sg;rw[BF,Ag (by rw[wm];exact h)];exact C0 _
theorem uk(h:t<36):sgs[t]? = some (sg t):=by
 unfold sg;rw[BF,Ag (by rw[wm];exact h)];rfl
theorem a0v(h:t<26):sg t∈lts:=by
 have a:lts[t]? = some (sg t):=by show (sgs.take 26)[t]? = _;rw[Dt h];exact uk (by lia)
 exact AE a
theorem vq:∀t,t<36->JL signsT ⟨#[sg t]⟩=(t:Int):=by decide +kernel
theorem ae7:sgs.Nodup:=by decide +kernel
theorem adu(ha:a<36)(hb:b<36)(h:sg a=sg b):a=b:=by
 have c:=uk ha;have d:=uk hb;rw[h] at c;exact (Jb (by rw[wm];exact ha) ae7).mp (c.trans d.symm)
theorem a8l(h:c∈sgs):∃t,t<36/\c=sg t:=by
 obtain⟨t,ht,rfl⟩:=Ef h;have a:t<36:=by rw[<- wm];exact ht
 refine⟨t,a,?_⟩;have:=uk a;rw[Ag ht] at this;exact A0 this
theorem aeb(h:c∈lts):∃t,t<26/\c=sg t:=by
 obtain⟨t,ht,rfl⟩:=Ef h;have hl:lts.length=26:=by decide +kernel
 have a:t<26:=by rw[<- hl];exact ht
 refine⟨t,a,?_⟩;have b:lts[t]? = some (sg t):=by show (sgs.take 26)[t]? = _;rw[Dt a];exact uk (by lia)
 rw[Ag ht] at b;exact A0 b
theorem ad9(hp:PreOk pre)(ht:t<ja pre)(hn:¬ wd pre t∈Mir.noNames):i5 (wd pre t)=true:=by
 have a:t<36:=by unfold ja at ht;split at ht<;>lia
 unfold i5;have hl:(wd pre t).length=pre.length+1:=by show (pre++[sg t]).toArray.size=_;simp
 have b:=hp.len;rw[if_neg ?_]
 . rw[BO];constructor
   . show ql (pre++[sg t])=true;cases hpre:pre with
     | nil=>exact a6l _ (a0v (by unfold ja at ht;rw[if_pos hpre] at ht;exact ht))
     | cons d r=>rw[List.cons_append,a30];exact a6l d (hp.hd d r hpre)
   . show (pre++[sg t]).all ki=true;refine List.all_eq_true.mpr fun d hd=>?_;rcases Ap.mp hd with z|z
     . exact a6r d (hp.sg d z)
     . rw[Ao.mp z];exact a6r _ (a2b a)
 . rintro (z|z|z)
   . have:=congrArg FY z;rw[hl] at this;have h0:("" : Str).length=0:=by decide +kernel
     lia
   . lia
   . exact hn z
theorem adr(ha:a<36)(hb:b<36)(h:wd pre a=wd pre b):a=b:=by
 have d:=congrArg (fun s:Str=>s.cps.toList) h;have c:pre++[sg a]=pre++[sg b]:=d;exact adu ha hb (by simpa using c)
theorem a4q{f:List Str}(hm:c<=36)(h0:0<c)(hb:f.length<c):¬ ∀j,j<c->wd pre ((d+j) % c)∈f:=by
 intro h;have p:((Ce c).map fun j=>wd pre j).Nodup:=by
  refine List.pairwise_map.mpr ((List.nodup_range (n:=c)).imp_of_mem fun {a b} ha g i e=>i (adr ?_ ?_ e))
  . have:=Dq.mp ha;lia
  . have:=Dq.mp g;lia
 have o:=AW p (l₂:=f) fun x m=>by
  obtain⟨t,ht,rfl⟩:=Az.mp m;have k:=Dq.mp ht;have hi:=Fe d h0;have:=h ((t+(c - d % c)) % c) (Fe _ h0);have e:(d+(t+(c - d % c)) % c) % c=t:=by
   rw[Nat.add_mod,Nat.mod_mod,<- Nat.add_mod];have q:d=c*(d / c)+d % c:=(Nat.div_add_mod d c).symm;have l:d+(t+(c - d % c))=t+c*(d / c+1):=by rw[Nat.mul_add,Nat.mul_one];lia
   rw[l,Nat.add_mul_mod_self_left,Jo k]
  rw[e] at this;exact this
 rw[Ad,EH] at o
 lia
theorem adt(pre:List Nat)(t u:Nat):cutS (wd pre t) none (some (-1))++(⟨#[sg u]⟩:Str)=wd pre u:=by
 have hl:(wd pre t).length=pre.length+1:=by show (pre++[sg t]).toArray.size=_;simp
 have d:(cutS (wd pre t) none (some (-1))).cps=pre.toArray:=by
  show (List.take (HT.sIx (wd pre t).length (wd pre t).length (some (-1)) - HT.sIx (wd pre t).length 0 none) (List.drop (HT.sIx (wd pre t).length 0 none) (pre++[sg t]))).toArray=_;have h:HT.sIx (wd pre t).length (wd pre t).length (some (-1))=pre.length:=by
   unfold HT.sIx;simp only[hl];rw[if_pos (by decide)]
   lia
  have g:HT.sIx (wd pre t).length 0 none=0:=rfl;rw[h,g,CO,Es,List.take_left'];rfl
 have c:(cutS (wd pre t) none (some (-1))++(⟨#[sg u]⟩:Str)).cps=(cutS (wd pre t) none (some (-1))).cps ++ #[sg u]:=HU _ _;have f:∀a b:Str,a.cps=b.cps->a=b:=fun a b e=>by cases a;cases b;cases e;rfl
 refine f _ _ ?_;rw[c,d];show pre.toArray ++ #[sg u]=(pre++[sg u]).toArray;simp
theorem afa{a:List Str}(hi:σ[i]? = some (some (.str x)))(b:σ[j]? = some (some (.ref l)))(d:σ[k]? = some (some (.ref m)))(g:H l=some (.lst (ns.map V.str)))(f:H m=some (.lst (a.map V.str)))(q:Q (decide (x∈ns++a)) H):
 tOr (u5 (tOp (rIn K false) (tVar i) (tVar j))) (u5 (tOp (rIn K false) (tVar i) (tVar k))) σ H Q:=by
 refine⟨_,hi,_,b,l,_,rfl,.inl (SqL.of g),rfl,pq _,_,rfl,?_⟩;rw[if_neg Ai,o7];refine iteB (fun c=>?_) (fun c=>⟨_,hi,_,d,m,_,rfl,.inl (SqL.of f),rfl,pq _,_,rfl,?_⟩)
 . rw[decide_eq_true (AD _ (of_decide_eq_true c))] at q;exact q
 . rw[if_neg Ai,o7];have e:decide (x∈ns++a)=decide (x∈a):=by
    rw[Ct,decide_eq_true_eq,decide_eq_true_eq,Ap];exact⟨fun z=>z.elim (fun y=>absurd y (of_decide_eq_false c)) id,.inr⟩
   rw[e] at q;exact q
inductive spUnlike(K:Ac)(vs:List V)(H:Hp)(Q:VK)(E:XK):Prop
 | mk (pre:List Nat)(t:Nat)(l:Addr)(ns:List Str)(h0:vs=[.str (wd pre t),.ref l])(hp:PreOk pre)(ht:t<ja pre)(hl:H l=some (.lst (ns.map V.str)))(hn:ns.length<=12)(q:∀x H',Same H H'->¬ x∈ns->i5 x=true->Q (.str x) H'):spUnlike K vs H Q E
theorem a5u(C:Con K mg w)(F:Fun K "_law_unlike" "_law_unlike" a4a f fd):FnOk P w K mg base CX0 1 f fd ["_law_name","_law_names_here"] (spUnlike K):=by
 refine F.okA ["_law_name","_law_names_here","_law_signs","_law_odd","_law_many"] fun O A outer Y H vs Q E X h nd=>?_;obtain⟨pre,t,l,ns,rfl,hp,ht,hl,hn,q⟩:=h;refine⟨_,fw (gp 2 nd i7)
  (fw (gp 3 nd (i8 (i9 (i9 (i9 (i9 (i9 (i9 (i9 (i9 (i9 (i9 ad))))))))))))
  (fw (gp 4 nd (gx l8 (i8 (gs (gs ad))) (i6 mr rfl C.int Dh (jf (oh ib (ii ur rfl C.len AV (fy (qv 0) ad)) fu (gn _)) ad)) (fun _ _=>rfl)))
  (fw (qi AO (QW.qt (yu (gi rf (qv 0) (qv 1) (by with_unfolding_all rfl)) (yk (gi rf (qv 0) (qv 3) (by with_unfolding_all rfl))))) (fz (gp 0 nd (gh nk (j8 a19 (qv 0) jn (j7 (jv jl fu))) (gx nw (qv 2) (gh jo (gh ij (ke (K:=K) rfl Hu Hv Hw (xk rfl) (qv 2) (gj (gx nw (qv 0) (jv jl fu) (fun _ _=>rfl)) ad)) fu) (qv 4)) (fun _ _=>rfl))))))
  (fz (gu (qv 0)))))),?_⟩
 refine⟨(by decide),fun k G=>?_⟩;have r:=gc G (.lst (Mir.noNames.map V.str));have k1:(upd H k (.lst (Mir.noNames.map V.str))) k=some (.lst (Mir.noNames.map V.str)):=ft;change tSeq _ _ _ _ (upd H k (.lst (Mir.noNames.map V.str)));generalize upd H k (.lst (Mir.noNames.map V.str))=M at r k1 |-;have s:(wd pre t).length=pre.length+1:=by show (pre++[sg t]).toArray.size=_;simp
 have S:=hp.len;have n:ja pre<=36/\26<=ja pre:=by unfold ja;split<;>lia
 refine⟨(by decide),fun l1 x=>?_⟩;obtain⟨R,z0,o,k2⟩:=gr x (.lst [V.int 36,V.int 26]);rw[z0];refine⟨_,rfl,wd pre t,rfl,ia (by lia),rfl,_,rfl,l1,_,_,.int (ja pre),rfl,rfl,SqL.of k2,?_,?_⟩
 . rw[s];unfold ja;by_cases hpr:pre=[]
   . rw[if_pos hpr,hpr];rfl
   . have:pre.length≠0:=fun z=>hpr (B0 z);rw[if_neg hpr,if_neg (by intro z;have:=V.int.inj (of_decide_eq_true z);lia)];rfl
 dsimp only[gq];have y:=(r.trans o) _ _ hl;have p:(ns++Mir.noNames).length<ja pre:=by rw[Aj,show Mir.noNames.length=10 by decide];lia
 refine⟨fun m σ H'=>H'=R/\∃j,m=ja pre - j/\(∀i,i<j->wd pre ((t+i) % ja pre)∈ns++Mir.noNames)/\σ=[some (.str (wd pre ((t+j) % ja pre))),some (.ref l),some (.str signsT),some (.ref k),some (.int (ja pre))],⟨_,rfl,0,rfl,fun i hi=>absurd hi (Fi _),?_⟩,?_⟩
 . rw[Nat.add_zero,Jo ht];rfl
 rintro m σ H' ⟨rfl,j,rfl,b,rfl⟩;have Z:j<ja pre:=Nat.lt_of_not_le fun z=>a4q n.1 (by lia) p fun i hi=>b i (by lia);have c:=Fe (t+j) (show 0<ja pre by lia);generalize hu:(t+j) % ja pre=u at c;have W:(wd pre u).length=pre.length+1:=by show (pre++[sg u]).toArray.size=_;simp
 have I:=o _ _ k1;have g:atI (wd pre u).cps.toList (-1)=some (sg u):=by show atI (pre++[sg u]) (-1)=_;exact jd
 have a:u<36:=by lia
 refine afa rfl rfl rfl y I ?_;refine iteB (fun hc=>?_) (fun hc=>?_)
 . have v:=of_decide_eq_true hc;refine⟨fun L J=>J=H'/\L=[some (.str (wd pre ((t+(j+1)) % ja pre))),some (.ref l),some (.str signsT),some (.ref k),some (.int (ja pre))],?_,?_⟩
   . rintro L J ⟨rfl,rfl⟩;refine⟨ja pre - (j+1),by lia,rfl,j+1,rfl,fun i hi=>?_,rfl⟩;by_cases e:i=j
     . rw[e,hu];exact v
     . exact b i (by lia)
   . have N:=Fe (u+1) (show 0<ja pre by lia);have U:(t+(j+1)) % ja pre=(u+1) % ja pre:=by rw[<- hu,Nat.mod_add_mod,Nat.add_assoc]
     have T:((u:Int)+1) % (ja pre:Int)=(((u+1) % ja pre:Nat):Int):=(Int.natCast_emod (u+1) (ja pre)).symm;have D:(cutS (wd pre u) none (some (-1))).length<=8:=by
      have e:(cutS (wd pre u) none (some (-1))).length<=(wd pre u).length:=by
       show (((wd pre u).cps.toList.drop (HT.sIx (wd pre u).length 0 none)).take _).toArray.size<=(wd pre u).cps.size;rw[Aq,AQ,Bc,Bi]
       lia
      lia
     refine⟨_,rfl,_,rfl,_,rfl,wd pre u,rfl,ia (by lia),_,rfl,_,rfl,rfl,_,rfl,_,rfl,wd pre u,_,sg u,rfl,rfl,ia (by lia),g,signsT,⟨#[sg u]⟩,rfl,rfl,by rw[vq u a];lia,?_⟩;rw[vq u a];refine⟨_,_,rfl,rfl,_,rfl,_,_,rfl,rfl,(show (0:Int)<(ja pre:Int) by lia),signsT,_,sg ((u+1) % ja pre),rfl,rfl,nh,?_,_,_,rfl,rfl,ia (by show _+1<=1000;lia),rfl,?_⟩
     . rw[T];exact jg (uk (by lia))
     . rw[adt,U];rfl
 . have d:=of_decide_eq_false hc;exact⟨_,rfl,q _ _ (r.trans o) (fun z=>d (AD _ z)) (ad9 hp c fun z=>d (AF _ z))⟩
abbrev a5w:Stmt:=top 37
structure WOk(w:List Nat):Prop where
 len:w.length<=8
 ne:w≠[]
 sg:∀c∈w,c∈sgs
 hd:∀c r,w=c::r->c∈lts
def toS(w:List Nat):Str:=⟨w.toArray⟩
theorem lu(w:List Nat):(toS w).length=w.length:=by show w.toArray.size=_;simp
theorem WOk.wd(h:WOk w):∃pre t,toS w=wd pre t/\PreOk pre/\t<ja pre:=by
 obtain⟨pre,c,rfl⟩:∃pre c,w=pre++[c]:=⟨w.dropLast,w.getLast h.ne,(DV h.ne).symm⟩
 have hc:=h.sg c (AF _ (Ao.mpr rfl));have hl:=h.len;rw[Aj,Ba] at hl;have hp:PreOk pre:=⟨by lia,fun d hd=>h.sg d (AD _ hd),fun d r e=>h.hd d (r++[c]) (by rw[e];rfl)⟩
 by_cases e:pre=[]
 . subst e;obtain⟨t,ht,rfl⟩:=aeb (h.hd c [] rfl);exact⟨[],t,rfl,hp,by unfold ja;rw[if_pos rfl];exact ht⟩
 . obtain⟨t,ht,rfl⟩:=a8l hc;exact⟨pre,t,rfl,hp,by unfold ja;rw[if_neg e];exact ht⟩
theorem WOk.one(h:c∈lts):WOk [c]:=⟨by simp,by simp,fun d hd=>by rw[Ao.mp hd];exact BV h,fun d r e=>by rw[<- (FP e).1];exact h⟩
theorem WOk.snoc(h:WOk w)(hc:c∈sgs)(hl:w.length<=7):WOk (w++[c]):=by
 refine⟨by rw[Aj,Ba];lia,by simp,fun d hd=>?_,fun d r e=>?_⟩
 . rcases Ap.mp hd with z|z
   . exact h.sg d z
   . rw[Ao.mp z];exact hc
 . cases hw:w with
   | nil=>exact absurd hw h.ne
   | cons d' r'=>rw[hw] at e;rw[<- (FP e).1];exact h.hd d' r' hw
theorem WOk.at(h:WOk w)(hc:c∈lts)(hi:i<w.length):WOk (w.take i++[c]++w.drop (i+1)):=by
 have a:c∈sgs:=BV hc;refine⟨?_,by simp,fun d hd=>?_,fun d r e=>?_⟩
 . have:=h.len;simp only[Aj,AQ,Bc,Ba];lia
 . rcases Ap.mp hd with z|z
   . rcases Ap.mp z with z|z
     . exact h.sg d (BV z)
     . rw[Ao.mp z];exact a
   . exact h.sg d (CI z)
 . cases i with
   | zero=>simp at e;rw[<- e.1];exact hc
   | succ i =>
    cases hw:w with
    | nil=>exact absurd hw h.ne
    | cons d' r'=>rw[hw] at e;simp at e;rw[<- e.1];exact h.hd d' r' hw
theorem xz(w:List Nat)(c:Nat):toS w++(⟨#[c]⟩:Str)=toS (w++[c]):=by
 have d:∀a b:Str,a.cps=b.cps->a=b:=fun a b e=>by cases a;cases b;cases e;rfl
 refine d _ _ ?_;rw[HU];show w.toArray ++ #[c]=(w++[c]).toArray;simp
theorem ach(a b:List Nat):toS a++toS b=toS (a++b):=by
 have c:∀a b:Str,a.cps=b.cps->a=b:=fun a b e=>by cases a;cases b;cases e;rfl
 refine c _ _ ?_;rw[HU];show a.toArray++b.toArray=(a++b).toArray;simp
theorem aei(w:List Nat)(i:Nat):cutS (toS w) none (some (i:Int))=toS (w.take i):=by
 unfold cutS;rw[HT.sIx_nat,show HT.sIx (toS w).length 0 none=0 from rfl,lu];show toS ((w.drop 0).take _)=_;rw[CO,Es];by_cases h:i<=w.length
 . rw[Df h]
 . rw[Gr (by lia),BP,Bg (by lia)]
theorem aac(w:List Nat)(i:Nat)(h:i<=w.length):cutS (toS w) (some (i:Int)) none=toS (w.drop i):=by
 unfold cutS;rw[HT.sIx_nat,show HT.sIx (toS w).length (toS w).length none=(toS w).length from rfl,lu,Df h];show toS ((w.drop i).take _)=_;rw[Bg (by rw[Bc];lia)]
def DI(H:Hp)(dl:Addr)(H':Hp):Prop:=Same H H'/\∃n:Int,H' dl=some (.lst [.int n])
theorem DI.put(h:DI H dl H')(hd:H dl=none)(n:Int):DI H dl (upd H' dl (.lst [.int n])):=⟨fun b o z=>by rw[fq (g6 z hd)];exact h.1 _ _ z,n,ft⟩
theorem DI.same(h:DI H dl H')(e:Same H' a):DI H dl a:=⟨h.1.trans e,by obtain⟨n,hn⟩:=h.2;exact⟨n,e _ _ hn⟩⟩
theorem zb(n:Int)(h0:0<m)(hm:m<=36):∃t:Nat,(t:Int)<m/\atI signsT.cps.toList (n % m)=some (sg t):=by
 have b:=B8 n (show m≠0 by lia);have a:=Bz n h0;obtain⟨t,ht⟩:∃t:Nat,n % m=(t:Int):=⟨(n % m).toNat,by lia⟩
 rw[ht] at a |-;exact⟨t,a,jg (uk (by lia))⟩
inductive spNm(vs:List V)(H:Hp)(Q:VK)(E:XK):Prop
 | mk (b p:Int)(n:Nat)(h0:vs=[.int b,.int p,.int (n:Int)])(hn:n<=8)(q:∀l xs H',Same H H'->H' l=some (.lst ((xs:List Str).map V.str))->xs.length=n->xs.Nodup->(∀x∈xs,i5 x=true)->Q (.ref l) H'):spNm vs H Q E
inductive NW(H:Hp)(dl:Addr)(b p:Int)(n sz:Nat)(i:Nat)(σ:St)(H':Hp):Prop
 | mk (w:List Nat)(z7:Option V)(D:DI H dl H')(hw:WOk w)(hl:w.length=i+1)(hσ:σ=[some (.int b),some (.int p),some (.int (n:Int)),some (.str signsT),some (.ref dl),some (.int (1+(sz:Int))),some (.str (toS w)),z7,none,none,none,none,none])
inductive NL(H:Hp)(dl nl:Addr)(b p:Int)(n sz:Nat)(w:List Nat)(i:Nat)(σ:St)(H':Hp):Prop
 | mk (xs:List Str)(z7 z9 z10 z11 z12:Option V)(D:DI H dl H')(k:H' nl=some (.lst (xs.map V.str)))(hl:xs.length=i)(hn:xs.Nodup)(hx:∀x∈xs,i5 x=true)(hσ:σ=[some (.int b),some (.int p),some (.int (n:Int)),some (.str signsT),some (.ref dl),some (.int (1+(sz:Int))),some (.str (toS w)),z7,some (.ref nl),z9,z10,z11,z12])
inductive NJ(H:Hp)(dl nl:Addr)(b p:Int)(n sz:Nat)(w:List Nat)(xs:List Str)(z9 z10 z11:Option V)(i:Nat)(σ:St)(H':Hp):Prop
 | mk (v:List Nat)(z7:Option V)(D:DI H dl H')(k:H' nl=some (.lst (xs.map V.str)))(hv:WOk v)(hl:v.length=i+1)(hσ:σ=[some (.int b),some (.int p),some (.int (n:Int)),some (.str signsT),some (.ref dl),some (.int (1+(sz:Int))),some (.str (toS w)),z7,some (.ref nl),z9,z10,z11,some (.str (toS v))])
theorem aa5(C:Con K mg w)(F:Fun K "_law_names" "_law_names" a5w f fd)(GF:FnOk P w K mg base CX0 2 gF dF ["_law_cell","_law_k"] vn)(cF:Cal K mg "_law_fed" gF dF ["_law_cell","_law_k"])(T:FnOk P w K mg base CX0 1 gD dD ["_law_digits","_law_many"] mj)(d:Cal K mg "_law_digit" gD dD ["_law_digits","_law_many"])(GU:FnOk P w K mg base CX0 1 gU dU ["_law_name","_law_names_here"] (spUnlike K))(cU:Cal K mg "_law_unlike" gU dU ["_law_name","_law_names_here"]):FnOk P w K mg base CX0 3 f fd ["_law_base","_law_place","_law_many"] spNm:=by
 refine F.okA ["_law_base","_law_place","_law_many","_law_signs","_law_digits","_law_size","_law_word","_law_j","_law_names_here","_law_k","_law_at","_law_letter","_law_name"] fun aE A outer s0 H vs Q E hr h nd=>?_;obtain⟨b,p,n,rfl,hn,q⟩:=h;have s:=hr.mono (j:=1) (by lia);refine⟨_,fw (gp 3 nd i7)
  (fw (gp 4 nd (gk GF hr cF (fy (qv 0) (gs ad))))
  (fw (gp 5 nd (gh ij fu (gk T s d (fy (qv 4) (gs ad)))))
  (fw (gp 6 nd (gx nw (qv 3) (gk T s d (fy (qv 4) (gs ad))) (fun _ _=>rfl)))
  (fw (jw AO rfl (a81 rfl C.range (gs (fy (qv 5) ad))) (jc 7 nd) (fz (gp 6 nd (gh nk (qv 6) (gx nw (qv 3) (gk T s d (fy (qv 4) (gs ad))) (fun _ _=>rfl))))))
  (fw (gp 8 nd (i8 ad))
  (fw (jw AO rfl (kd rfl C.range (fy (qv 2) ad)) (jc 9 nd) (fw (gp 10 nd (gh jo (qv 1) (qv 5)))
  (fw (gp 11 nd (gx nw (qv 3) (gh jo (gh ij (ke (K:=K) rfl Hu Hv Hw (xk rfl) (qv 3) (gj (gx nw (qv 6) (qv 10) (fun _ _=>rfl)) ad)) (qv 9)) fu) (fun _ _=>rfl)))
  (fw (gp 12 nd (gh nk (gh nk (j8 a19 (qv 6) jn (j7 (qv 10))) (qv 11)) (j8 a19 (qv 6) (j7 (gh ij (qv 10) fu)) jn)))
  (fw (ie (gi ib (gh jo (qv 0) fu) fu (gn _)) (fw (gp 12 nd (gx nw (qv 3) (gk T s d (fy (qv 4) (gs ad))) (fun _ _=>rfl)))
  (fz (jw AO rfl (kd rfl C.range (gw (gk T s d (fy (qv 4) (gs ad))) ad)) (jc 7 nd) (fz (gp 12 nd (gh nk (qv 12) (gx nw (qv 3) (gk T s d (fy (qv 4) (gs ad))) (fun _ _=>rfl)))))))) iq)
  (fz (ik (ke (K:=K) rfl AM BC BD kg (qv 8) (gw (gk GU s cU (fy (qv 12) (fy (qv 8) ad))) ad)))))))))
  (fz (gu (qv 8))))))))),?_⟩
 refine⟨_,rfl,b,3,rfl,fun dl r=>?_⟩;have D0:DI H dl (upd H dl (.lst [.int (fedF b 3)])):=⟨gc r _,_,ft⟩
 generalize upd H dl (.lst [.int (fedF b 3)])=H1 at D0 |-;obtain⟨e1,n1,k1⟩:=id D0;refine⟨_,rfl,dl,n1,8,rfl,k1,(by decide),(by decide),_,_,rfl,rfl,?_⟩;have aH:=B8 n1 (show (8:Int)≠0 by decide);have ak:=Bz n1 (show (0:Int)<8 by decide);obtain⟨sz,hsz⟩:∃sz:Nat,n1 % 8=(sz:Int):=⟨(n1 % 8).toNat,by lia⟩
 rw[hsz] at ak |-;have D2:=D0.put r (n1 / 8);generalize upd H1 dl (.lst [.int (n1 / 8)])=H2 at D2 |-;obtain⟨e2,n2,k2⟩:=id D2;obtain⟨t2,aG,ae⟩:=zb n2 (m:=26) (by decide) (by decide);refine⟨_,rfl,_,rfl,dl,n2,26,rfl,k2,(by decide),(by decide),signsT,_,sg t2,rfl,rfl,nh,ae,?_⟩;have D3:=D2.put r (n2 / 26);generalize upd H2 dl (.lst [.int (n2 / 26)])=H3 at D3 |-;dsimp only[gq];refine g8 (a:=tFor _ _ _) fun F1 al _ _=>?_;refine⟨_,rfl,1,1+(sz:Int),rfl,⟨by decide,by decide,by lia,by lia⟩,?_⟩;refine ku (lo:=1) (n:=(1+(sz:Int) - 1).toNat) (NW H dl b p n sz) ⟨[sg t2],none,D3,WOk.one (a0v (by lia)),rfl,rfl⟩ ?_ ?_
 . rintro i σ H' hi ⟨g,U,L,hw,ar,rfl⟩;obtain⟨e4,n4,k4⟩:=id L;obtain⟨t4,ah,G⟩:=zb n4 (m:=36) (by decide) (by decide);refine⟨_,rfl,_,rfl,_,rfl,dl,n4,36,rfl,k4,(by decide),(by decide),signsT,_,sg t4,rfl,rfl,nh,G,toS g,_,rfl,rfl,ia (by rw[lu];show _+1<=1000;lia),g++[sg t4],some (.int (1+(i:Int))),L.put r _,hw.snoc (a2b (by lia)) (by lia),by rw[Aj,Ba];lia,?_⟩;rw[xz];rfl
 rintro σ H4 ⟨g,U,L,hw,ar,rfl⟩;refine al _ _ ?_;have aA:g.length=sz+1:=by lia
 refine⟨(by decide),fun l I=>?_⟩;have D5:DI H dl (upd H4 l (.lst [])):=L.same (gc I _);have k5:(upd H4 l (.lst [])) l=some (.lst (([]:List Str).map V.str)):=ft;have J:l≠dl:=fun z=>by obtain⟨_,n,k⟩:=L;rw[z,k] at I;cases I
 have ax:H l=none:=L.1.free I;dsimp only[gq];generalize upd H4 l (.lst [])=H5 at D5 k5 |-;refine g8 (a:=tFor _ _ _) fun F2 au _ _=>?_;refine⟨_,rfl,_,rfl,by lia,by lia,?_⟩;refine ku (lo:=0) (n:=(n:Int).toNat) (NL H dl l b p n sz g) ⟨[],U,none,none,none,none,D5,k5,rfl,.nil,(fun x hx=>by cases hx),rfl⟩ ?_ ?_
 . rintro i σ Y hi ⟨xs,U,z9,ai,ap,aq,W,k6,aa,M,S,rfl⟩;have az:=B8 p (show (1+(sz:Int))≠0 by lia);have ab:=Bz p (show (0:Int)<1+(sz:Int) by lia);refine⟨_,rfl,_,rfl,_,_,rfl,rfl,(show (0:Int)<1+(sz:Int) by lia),?_⟩;show gq 10 (.int (p % (1+(sz:Int)))) _ _ _;obtain⟨a,ha⟩:∃a:Nat,p % (1+(sz:Int))=(a:Int):=⟨(p % (1+(sz:Int))).toNat,by lia⟩
   rw[ha] at ab |-;have R:a<g.length:=by lia
   obtain⟨u,hu,aj⟩:=a8l (hw.sg _ (C0 R));have af:atI (toS g).cps.toList (a:Int)=some (sg u):=by show atI g (a:Int)=_;exact jg (by rw[Ag R,aj])
   obtain⟨t7,aF,X⟩:=zb ((u:Int)+(0+(i:Int))) (m:=26) (by decide) (by decide);dsimp only[gq];refine⟨_,rfl,_,rfl,rfl,_,rfl,_,rfl,toS g,_,sg u,rfl,rfl,ia (by rw[lu];lia),af,signsT,⟨#[sg u]⟩,rfl,rfl,by rw[vq u hu];lia,?_⟩;rw[vq u hu];refine⟨_,rfl,_,_,rfl,rfl,_,_,rfl,rfl,(show (0:Int)<26 by decide),signsT,_,sg t7,rfl,rfl,nh,X,?_⟩;dsimp only[gq];refine⟨_,rfl,_,rfl,_,rfl,toS g,rfl,ia (by rw[lu];lia),?_⟩;rw[aei];refine⟨_,rfl,_,_,rfl,rfl,ia (by rw[lu,AQ];show _+1<=1000;lia),_,rfl,_,rfl,_,_,rfl,rfl,_,rfl,toS g,rfl,ia (by rw[lu];lia),?_⟩;have ea:((a:Int)+1)=((a+1:Nat):Int):=rfl;rw[ea,aac _ _ (by lia),xz];refine⟨_,_,rfl,rfl,ia (by rw[lu,lu,Aj,AQ,Bc,Ba];lia),?_⟩;rw[ach];have hv:WOk (g.take a++[sg t7]++g.drop (a+1)):=hw.at (a0v (by lia)) R;generalize g.take a++[sg t7]++g.drop (a+1)=v at hv |-;dsimp only[gq];refine g8 (a:=tIfS _ _ _) fun F3 aw _ _=>?_;have tail:∀(v:List Nat) (H7:Hp) (D:Option V),DI H dl H7->H7 l=some (.lst (xs.map V.str))->WOk v->F3.nx [some (.int b),some (.int p),some (.int (n:Int)),some (.str signsT),some (.ref dl),some (.int (1+(sz:Int))),some (.str (toS g)),D,some (.ref l),some (.int (0+(i:Int))),some (.int (a:Int)),some (.str ⟨#[sg t7]⟩),some (.str (toS v))] H7:=fun v H7 D D7 k7 hv=>aw _ _ (by
    obtain⟨pre,t,e,hp,ht⟩:=hv.wd;refine⟨_,rfl,.inl ⟨rfl,_,SqL.of k7⟩,_,rfl,_,rfl,.mk pre t l xs (by rw[e];rfl) hp ht k7 (by lia) fun x H8 e8 hx hn=>?_⟩;refine⟨l,xs.map V.str,.str x,rfl,rfl,e8 _ _ k7,j6 (by rw[Ad];lia),xs++[x],_,_,_,_,_,?_,?_,?_,?_,?_,rfl⟩
    . obtain⟨d1,m,d2⟩:=D7.same e8;refine⟨fun c o z=>?_,m,?_⟩
      . rw[fq (g6 z ax)];exact d1 _ _ z
      . rw[fq (AL J)];exact d2
    . rw[ft,Au];rfl
    . rw[Aj,Ba,aa]
    . exact Cq.mpr ⟨M,Dz _ _,fun y N z hz e=>hx (by rw[<- Ao.mp hz,<- e];exact N)⟩
    . intro y N;rcases Ap.mp N with N|N
      . exact S y N
      . rw[Ao.mp N];exact hn)
   refine⟨_,rfl,_,_,rfl,rfl,(show (0:Int)<2 by decide),rfl,_,rfl,iteB (fun _=>?_) (fun _=>tail v Y U W k6 hv)⟩;obtain⟨e6,n6,d6⟩:=id W;obtain⟨t8,aD,ac⟩:=zb n6 (m:=26) (by decide) (by decide);refine⟨_,rfl,_,rfl,dl,n6,26,rfl,d6,(by decide),(by decide),signsT,_,sg t8,rfl,rfl,nh,ac,?_⟩;have D8:=W.put r (n6 / 26);have k8:(upd Y dl (.lst [.int (n6 / 26)])) l=some (.lst (xs.map V.str)):=by rw[fq J];exact k6
   generalize upd Y dl (.lst [.int (n6 / 26)])=H8 at D8 k8 |-;obtain⟨e8,O,d8⟩:=id D8;have aC:=B8 O (show (8:Int)≠0 by decide);have aB:=Bz O (show (0:Int)<8 by decide);dsimp only[gq];refine⟨_,rfl,dl,O,8,rfl,d8,(by decide),(by decide),_,rfl,by lia,by lia,?_⟩;have D9:=D8.put r (O / 8);have k9:(upd H8 dl (.lst [.int (O / 8)])) l=some (.lst (xs.map V.str)):=by rw[fq J];exact k8
   generalize upd H8 dl (.lst [.int (O / 8)])=H9 at D9 k9 |-;refine ku (lo:=0) (n:=(O % 8).toNat) (NJ H dl l b p n sz g xs (some (.int (0+(i:Int)))) (some (.int (a:Int))) (some (.str ⟨#[sg t7]⟩))) ⟨[sg t8],U,D9,k9,WOk.one (a0v (by lia)),rfl,rfl⟩ ?_ ?_
   . rintro j σ H' hj ⟨v,D,L,ag,ao,an,rfl⟩;obtain⟨e4,n4,k4⟩:=id L;obtain⟨t4,ah,G⟩:=zb n4 (m:=36) (by decide) (by decide);refine⟨_,rfl,_,rfl,_,rfl,dl,n4,36,rfl,k4,(by decide),(by decide),signsT,_,sg t4,rfl,rfl,nh,G,toS v,_,rfl,rfl,ia (by rw[lu];show _+1<=1000;lia),v++[sg t4],some (.int (0+(j:Int))),L.put r _,by rw[fq J];exact ag,ao.snoc (a2b (by lia)) (by lia),by rw[Aj,Ba];lia,?_⟩;rw[xz];rfl
   rintro σ av ⟨v,D,ay,am,Z,an,rfl⟩;exact tail v av D ay am Z
 rintro σ Y ⟨xs,U,z9,ai,ap,aq,W,k6,aa,M,S,rfl⟩;exact au _ _ ⟨_,rfl,q l xs Y W.1 k6 (by lia) M S⟩
def vK(xs:List Str)(f:Str->Int):List (Key×V):=xs.map fun x=>(Sum.inr x,.int (f x))
def upF(f:Str->Int)(x:Str)(v:Int):Str->Int:=fun y=>if y=x then v else f y
def hK(hp:List (Int×Addr)):List (Key×V):=hp.map fun p=>(Sum.inl p.1,.ref p.2)
def bK(xs:List Str):List (Key×V):=xs.map fun x=>(Sum.inr x,.bl true)
theorem wr:∀{xs:List Str},x∈xs->valV (vK xs f) (Sum.inr x)=some (.int (f x))
 | [],h=>by cases h
 | y::xs,h=>by
  by_cases e:y=x
  . subst e;exact md rfl
  . rcases Ah.mp h with z|z
    . exact absurd z.symm e
    . have a:=wr (f:=f) z;unfold valV vK at a |-;rw[Ar,BJ];rw[decide_eq_false (fun w=>e (DH w))];exact a
theorem v7{g:Str->β}{xs:List Str}:((xs.map fun y=>((Sum.inr y:Key),g y)).any fun kv=>decide (kv.1=(Sum.inr x:Key)))=decide (x∈xs):=by
 rw[Ct,DX,decide_eq_true_eq];constructor
 . rintro⟨kv,c,b⟩;obtain⟨y,a,rfl⟩:=Az.mp c;rw[<- DH (of_decide_eq_true b)];exact a
 . intro h;exact⟨_,Az.mpr ⟨x,h,rfl⟩,decide_eq_true rfl⟩
theorem yv(h:x∈xs):putK (vK xs f) (Sum.inr x) (.int v)=vK xs (upF f x v):=by
 unfold putK vK;rw[v7,decide_eq_true h,if_pos rfl,Bd];refine BE fun y _=>?_;show (if (Sum.inr y:Key)=Sum.inr x then _ else _)=_;unfold upF;by_cases e:y=x
 . rw[if_pos (by rw[e]),if_pos e]
 . rw[if_neg (fun z=>e (DH z)),if_neg e]
theorem ae9(h:¬ x∈xs):putK (vK xs f) (Sum.inr x) (.int v)=vK (xs++[x]) (upF f x v):=by
 unfold putK vK;rw[v7,decide_eq_false h,if_neg Ai,Au]
 congr 1
 . refine BE fun y a=>?_;unfold upF;rw[if_neg (fun z=>h (by rw[<- z];exact a))]
 . show _=[((Sum.inr x:Key),V.int (upF f x v x))]
   unfold upF;rw[if_pos rfl]
def addL(L:List Str)(x:Str):List Str:=if x∈L then L else L++[x]
theorem mem_addL:y∈addL L x↔y∈L\/y=x:=by
 unfold addL;split
 . exact⟨.inl,fun h=>h.elim id fun e=>by rw[e];assumption⟩
 . rw[Ap,Ao]
theorem a8i:putK (bK xs) (Sum.inr x) (.bl true)=bK (addL xs x):=by
 unfold putK bK addL;rw[v7 (g:=fun _=>V.bl true)];by_cases h:x∈xs
 . rw[decide_eq_true h,if_pos rfl,if_pos h,Bd];refine BE fun y _=>?_;show (if (Sum.inr y:Key)=Sum.inr x then _ else _)=_;by_cases e:y=x
   . rw[if_pos (by rw[e])]
   . rw[if_neg (fun z=>e (DH z))]
 . rw[decide_eq_false h,if_neg Ai,if_neg h,Au];rfl
theorem ae3(h:¬ x∈hp.map (·.1)):putK (hK hp) (Sum.inl x) (.ref r)=hK (hp++[(x,r)]):=by
 unfold putK hK;have e:((hp.map fun p=>((Sum.inl p.1:Key),V.ref p.2)).any fun kv=>decide (kv.1=(Sum.inl x:Key)))=false:=by
  rw[Bool.eq_false_iff];intro z;obtain⟨kv,c,b⟩:=DX.mp z;obtain⟨y,a,rfl⟩:=Az.mp c;exact h (Az.mpr ⟨y,a,Ed (of_decide_eq_true b)⟩)
 rw[e,if_neg Ai,Au];rfl
theorem a3n:(hK hp).map (·.1)=(hp.map (·.1)).map Sum.inl:=by unfold hK;rw[Bd,Bd];rfl
abbrev a7e:Stmt:=top 10
abbrev a2t:Stmt:=kh (top 30) 7
def r8(r:Str)(i j:Int):Bool:=decide (i=j) == decide (r = "is")
inductive spHolds(K:Ac)(vs:List V)(H:Hp)(Q:VK)(E:XK):Prop
 | mk (d t:Addr)(kvs:List (Key×V))(r x y:Str)(i j:Int)(h0:vs=[.ref d,.ref t])(h1:H d=some (.dK kvs))(h2:SqT K H t [.str r,.str x,.str y])(h3:numV kvs x=some (.int i))(h4:numV kvs y=some (.int j))(q:Q (.bl (r8 r i j)) H):spHolds K vs H Q E
def goP(b:Bool)(wd:Str)(p:Pre)(k:Nat):Pre×Nat:=if b=true then (p++[(k,0)],0) else if wd = "if" then (p++[(k,1)],0) else (p,k+1)
inductive spBranch(K:Ac)(CF:Addr)(vs:List V)(H:Hp)(Q:VK)(E:XK):Prop
 | mk (m p dx pr pt nd bd t c:Addr)(fs:List (Str×V))(rc wd r x y:Str)(v0 v1 v2 v3 v4 u2 u3:V)(kvs:List (Key×V))(i j:Int)(pp:Pre)(k:Nat)(due:Pre×Nat)(e:Option Addr)(h0:vs=[.ref m,.ref p,.ref t])(h1:H p=some (.ins CF dx fs))(h2:FFs fs pr pt nd rc)(h3:fs.length<50)(h4:H pr=some (.tup [v0,v1,v2,v3,v4,.ref bd]))(h5:SqT K H pt ((flat pp++[(k:Int)]).map V.int))(h6:H t=some (.tup [.str wd,.ref c,u2,u3]))(h7:SqT K H c [.str r,.str x,.str y])(h8:H nd=some (.dK kvs))(h9:numV kvs x=some (.int i))(h10:numV kvs y=some (.int j))(h11:pp.length<=30)(h12:Stands H bd (goP (r8 r i j) wd pp k).1 (goP (r8 r i j) wd pp k).2 due e)(q:∀q1 fs' H',Same H H'->SqT K H' q1 ((flat due.1++[(due.2:Int)]).map V.int)->FFs fs' pr q1 nd rc->fs'.length=fs.length->(∀f,f≠("path" : Str)->fs'.lookup f=fs.lookup f)->Q .non (upd H' p (.ins CF dx fs'))):spBranch K CF vs H Q E
theorem a9u(C:Con K mg w)(F:Fun K "holds" "holds" a7e f fd)(g:FnOk P w K mg base CX0 1 o u ["values","word"] spNumOf)(a:Cal K mg "number_of" o u ["values","word"]):FnOk P w K mg base CX0 2 f fd ["values","fact"] (spHolds K):=by
 refine F.okA ["values","fact","alike"] fun s A outer v H vs Q E b h nd=>?_;obtain⟨d,t,kvs,r,x,y,i,j,rfl,e,c,k,p,q⟩:=h;have n:=kx b;refine⟨_,fw (gp 2 nd (oh ib (gk g b a (fy (qv 0) (gj (gz K (qv 1) fu) ad))) (gk g b a (fy (qv 0) (gj (gz K (qv 1) fu) ad))) (gn _)))
  (fz (gu (oh ib (qv 2) (oh ib (gz K (qv 1) fu) i7 (gn _)) (gn _)))),?_⟩
 refine⟨_,rfl,_,rfl,t,_,1,_,rfl,rfl,c,rfl,l9 e k ?_⟩;refine⟨_,rfl,_,rfl,t,_,2,_,rfl,rfl,c,rfl,l9 e p ?_⟩;refine⟨rfl,?_⟩;dsimp only[gq];refine⟨_,rfl,_,rfl,t,_,0,_,rfl,rfl,c,rfl,rfl,rfl,?_⟩;rw[show decide (V.bl (decide (V.int i=V.int j))=V.bl (decide (V.str r=V.str "is")))=r8 r i j from ?_]
 . exact q
 unfold r8;have m:decide (V.int i=V.int j)=decide (i=j):=by by_cases z:i=j<;>simp[z]
 have l:decide (V.str r=V.str ("is" : Str))=decide (r = "is"):=by by_cases z:r = "is" <;> simp[z]
 rw[m,l];cases decide (i=j)<;>cases decide (r = "is")<;>simp
theorem a85(C:Con K mg w)(U:TxF K mg b fJ)(F:Fun K "branch" "Machine.branch" a2t f fd)(GH:FnOk P w K mg base CX0 2 gH dH ["values","fact"] (spHolds K))(Y:Cal K mg "holds" gH dH ["values","fact"])(T:FnOk P w K mg base CX0 5 gM dM ["self","path"] (sw K b))(v:MCal K b "move" gM dM ["self","path"])(GB:FnOk P w K mg base CX0 1 gB dB ["path"] (spBehind K))(X:Cal K mg "behind_deed" gB dB ["path"]):FnOk P w K mg base CX0 6 f fd ["self","frame","deed"] (spBranch K b):=by
 refine F.okA ["self","frame","deed"] fun ac A outer s0 H vs Q E o h nd=>?_;obtain⟨m,p,dx,pr,pt,l,bd,t,c,fs,rc,wd,r,x,y,v0,v1,v2,v3,v4,u2,D,kvs,i,j,pp,k,due,e,rfl,g,d,h3,h4,h5,h6,h7,h8,h9,N,ae,a,q⟩:=h;have ab:=kx o;have Z:=o.mono (j:=1) (by lia);have aa:=o.mono (j:=2) (by lia);refine⟨_,(fz (ie (a29 (gk GH aa Y (jf (i4 (K:=K) rfl (qv 1)) (gj (gz K (qv 2) fu) ad)))) (fz (ik (jm (qv 1) U.cl v.meth T o v.bind .nil im (jb (gh (vc (K:=K) rfl) (i4 (K:=K) rfl (qv 1)) (je (gs (gs ad)))) ad)))) (fz (ie (gi ib (gz K (qv 2) fu) i7 (gn _)) (fz (ik (jm (qv 1) U.cl v.meth T o v.bind .nil im (jb (gh (vc (K:=K) rfl) (i4 (K:=K) rfl (qv 1)) (je (gs (gs ad)))) ad)))) (fz (ik (jm (qv 1) U.cl v.meth T o v.bind .nil im (gw (gk GB Z X (jf (i4 (K:=K) rfl (qv 1)) ad)) ad)))))))),?_⟩;refine⟨_,rfl,p,b,dx,fs,_,rfl,g,U.cl,U.nN,d.numbers,_,rfl,t,_,1,_,rfl,rfl,SqT.of h6,rfl,.mk l c kvs r x y i j rfl h8 h7 h9 N ?_⟩;unfold goP at a;have mv:∀s:Nat,Stands H bd (pp++[(k,s)]) 0 due e->mn (sd b "move" (sw K b) [] E0 (tVar 1) (ip (tOp (a7x K) (tFld K (tVar 1) "path") (tTup (ip (tC (V.int (s:Int))) (ip (tC (V.int 0)) tNil)))) tNil)) { nx:=fun x H'=>Q V.non H',rt:=Q } (L2.start ["self","frame","deed"] [V.ref m,V.ref p,V.ref t]) H:=fun s hs=>by
  refine⟨_,rfl,p,dx,fs,rfl,g,d.meth _ (by simp),_,rfl,p,b,dx,fs,_,rfl,g,U.cl,U.nA,d.path,(show 2<=sizeLine by decide),fun u hu=>?_⟩;obtain⟨H1,z0,S,k1⟩:=gr hu (.tup [.int (s:Int),.int 0]);rw[z0];refine⟨pt,u,_,_,rfl,rfl,S.seqT h5,SqT.of k1,(by simp),(by simp),ia (by rw[Ad,Aj,m4];simp;lia),fun D M=>?_⟩;have s2:=gc M (.tup ((flat pp++[(k:Int)]).map V.int++[.int (s:Int),.int 0]));have k2:(upd H1 D (.tup ((flat pp++[(k:Int)]).map V.int++[.int (s:Int),.int 0]))) D=some (.tup ((flat (pp++[(k,s)])++[((0:Nat):Int)]).map V.int)):=by
   rw[ft,xy];simp[flat]
  generalize upd H1 D (.tup ((flat pp++[(k:Int)]).map V.int++[.int (s:Int),.int 0]))=H2 at s2 k2 |-;have G:=S.trans s2;refine⟨p,dx,pr,pt,l,bd,D,fs,rc,v0,v1,v2,v3,v4,pp++[(k,s)],0,due,e,rfl,G _ _ g,d,h3,G _ _ h4,SqT.of k2,hs.same G,(by rw[Aj];simp;lia),fun q1 fs' O R hq L hl n=>?_⟩;exact q q1 fs' O (G.trans R) hq L hl n
 refine⟨_,rfl,iteB (fun hb=>?_) (fun hb=>?_)⟩
 . rw[if_pos hb] at a;exact mv 0 a
 . rw[if_neg (by rw[hb];simp)] at a;refine⟨_,rfl,t,_,0,_,rfl,rfl,SqT.of h6,rfl,rfl,_,rfl,iteB (fun J=>?_) (fun J=>?_)⟩
   . rw[if_pos (V.str.inj (of_decide_eq_true J))] at a;exact mv 1 a
   . rw[if_neg (fun z=>of_decide_eq_false J (by rw[z]))] at a;refine⟨_,rfl,p,dx,fs,rfl,g,d.meth _ (by simp),_,rfl,p,b,dx,fs,_,rfl,g,U.cl,U.nA,d.path,.mk pt (flat pp) (k:Int) rfl h5 (by rw[m4];lia) fun q0 H1 I W=>?_⟩;refine⟨p,dx,pr,pt,l,bd,q0,fs,rc,v0,v1,v2,v3,v4,pp,k+1,due,e,rfl,I _ _ g,d,h3,I _ _ h4,W,a.same I,(by lia),fun q1 fs' O R hq L hl n=>?_⟩;exact q q1 fs' O (I.trans R) hq L hl n
theorem a8q(h:p++[a]=q++[b]):p=q/\a=b:=by
 have:=List.append_inj' h rfl;exact⟨this.1,(FP this.2).1⟩
def nilF(f:Str->Int):Str->Int:=upF f "nil" 0
theorem a61(h:y∈zs++[("nil" : Str)]):numV (vK zs F) y=some (.int (nilF F y)):=by
 unfold numV nilF upF;by_cases e:y = "nil"
 . rw[if_pos e,if_pos e]
 . rw[if_neg e,if_neg e];exact wr ((Ap.mp h).elim id fun z=>absurd (Ao.mp z) e)
theorem LFrom.unapp:∀{q:Pre}{bd:Addr},LFrom X bd (q++[(i,s)]) l->∃(b:Addr) (ts:List Addr) (t:Addr),LFrom X bd q b/\X b=some (.lst (ts.map V.ref))/\ts[i]? = some t/\Side X t s l
 | [],bd,h=>by
  obtain⟨ts,t,m,f,d,c,a⟩:=h;have a:m=l:=a;subst a;exact⟨bd,ts,t,rfl,f,d,c⟩
 | (j,u)::q,bd,h=>by
  obtain⟨ts,t,m,f,d,c,a⟩:=h;obtain⟨b,e,t',g1,n,g,k⟩:=LFrom.unapp (q:=q) (bd:=m) a;exact⟨b,e,t',⟨ts,t,m,f,d,c,g1⟩,n,g,k⟩
theorem LEnd.of{b:List Addr}(h0:X bd=some (.lst (b.map V.ref))):∀(n:Nat) {p:Pre}{l:Addr},p.length=n->LFrom X bd p l->∃due e,LEnd X bd p l due e/\due.1.length<=p.length
 | 0,p,l,hn,h=>by
  have e:p=[]:=B0 hn;subst e;have h:bd=l:=h;subst h;exact⟨_,_,.top b h0,Ak _⟩
 | n+1,p,l,hn,h=>by
  have f:p≠[]:=fun z=>by rw[z] at hn;cases hn
  obtain⟨q,⟨i,s⟩,rfl⟩:∃(q:Pre) (x:Nat×Nat),p=q++[x]:=⟨p.dropLast,p.getLast f,(DV f).symm⟩
  rw[Aj] at hn;have hq:q.length=n:=by simpa using hn
  obtain⟨r,ts,t,g1,u,k,w⟩:=h.unapp;obtain⟨due,e,m,hl⟩:=LEnd.of h0 n hq g1;have v:=(Aw.mp k).1;rcases w with⟨a,o,c,j,g⟩|⟨c,d,j,g⟩
  . by_cases z:i+1=ts.length
    . exact⟨_,_,.last q r ts i s t a o l c due e m u k j g z,by rw[Aj];lia⟩
    . exact⟨_,_,.next q r ts i s t a o l _ c due e m u k j g (Ag (by lia)),by rw[Aj];exact B9 _ _⟩
  . subst g;exact⟨_,_,.loop q r ts i t l c d due e m u k j,by rw[Aj];exact B9 _ _⟩
theorem Stands.of{a ts:List Addr}(h0:X bd=some (.lst (a.map V.ref)))(h:LFrom X bd p l)(hl:X l=some (.lst (ts.map V.ref)))(d:k<=ts.length):∃due e,Stands X bd p k due e/\due.1.length<=p.length:=by
 by_cases z:k<ts.length
 . exact⟨_,_,.own l _ ts h hl (Ag z) rfl rfl,Ak _⟩
 . obtain⟨due,e,c,b⟩:=LEnd.of h0 _ rfl h;exact⟨due,e,.fin l ts c hl (by lia),b⟩
def subD:Deed->Nat->Option (List Deed)
 | .cond _ a _,0=>some a
 | .cond _ _ b,1=>some b
 | .loop _ _ _ a,0=>some a
 | _,_=>none
def subL:List Deed->Pre->Option (List Deed)
 | ds,[]=>some ds
 | ds,(k,s)::p=>(ds[k]?).bind fun d=>(subD d s).bind fun es=>subL es p
def ww:Option Deed->Bool
 | some (.loop _ _ _ _)=>true
 | _=>false
theorem a0r(h:DeedX K X L t d)(hs:Side X t s m):∃es,subD d s=some es/\L m es:=by
 rcases hs with⟨i,o,c,f,j⟩|⟨c,dd,f,j⟩
 . cases h with
   | plain p g1 g2=>cases p with
    | row r =>
     have g1:X t=some (.tup (r.map V.str)):=g1;rw[f] at g1;injection g1 with g1;injection g1 with g1;cases r with
     | nil=>cases g1
     | cons a r=>cases r with
      | nil=>cases g1
      | cons b r=>cases r with
       | nil=>cases g1
       | cons d r=>simp at g1
    | call x cc vs =>
     obtain⟨v,g1,_⟩:=g1;rw[f] at g1;injection g1 with g1;injection g1 with g1;simp at g1
   | cond c' i' o' r a b g =>
    rw[f] at g;cases g;rename_i hc okr hi k;rcases j with⟨rfl,rfl⟩|⟨rfl,rfl⟩
    . exact⟨a,rfl,hi⟩
    . exact⟨b,rfl,k⟩
   | loop c' td i' fa pa r F P a g =>
    rw[f] at g;injection g with g;injection g with g;simp at g;exact absurd g.1 (by decide +kernel)
 . cases h with
   | plain p g1 g2=>cases p with
    | row r =>
     have g1:X t=some (.tup (r.map V.str)):=g1;rw[f] at g1;injection g1 with g1;injection g1 with g1;cases r with
     | nil=>cases g1
     | cons a r=>cases r with
      | nil=>cases g1
      | cons b r=>cases r with
       | nil=>cases g1
       | cons d r=>cases r with
        | nil=>cases g1
        | cons e r=>simp at g1
    | call x cc vs =>
     obtain⟨v,g1,_⟩:=g1;rw[f] at g1;injection g1 with g1;injection g1 with g1;simp at g1;exact absurd g1.1 (by decide +kernel)
   | cond c' i' o' r a b g =>
    rw[f] at g;injection g with g;injection g with g;simp at g;exact absurd g.1 (by decide +kernel)
   | loop c' td i' fa pa r F P a g =>
    rw[f] at g;cases g;rename_i hi;subst j;exact⟨a,rfl,hi⟩
theorem a7p:∀{p:Pre}{bs:List Nat}{l c:Addr}{ds:List Deed},ListX K X bs l ds->LFrom X l p c->∃es a,subL ds p=some es/\ListX K X a c es
 | [],bs,l,c,ds,h,f=>by
  have f:l=c:=f;subst f;exact⟨ds,bs,rfl,h⟩
 | (k,s)::p,[],l,c,ds,h,f=>h.elim
 | (k,s)::p,b::bs,l,c,ds,h,f=>by
  obtain⟨ts,t,m,v,r,j,y⟩:=f;obtain⟨u,g1,i,_⟩:=h;have e:=oe v g1;subst e;obtain⟨d,hd,q⟩:=Paired.nth i r;obtain⟨es,o,n⟩:=a0r q j;obtain⟨g,a,x,w⟩:=a7p n y;refine⟨g,a,?_,w⟩;unfold subL;rw[hd];show (subD d s).bind (fun es=>subL es p)=_;rw[o];exact x
theorem sm{ts:List Addr}(h:ListX K X bs bd ds)(m:LFrom X bd p l)(hl:X l=some (.lst (ts.map V.ref))):∃es,subL ds p=some es/\es.length=ts.length/\∀(i:Nat) (t:Addr),ts[i]? = some t->∃d a,es[i]? = some d/\DeedX K X (ListX K X a) t d:=by
 obtain⟨es,a,g,f⟩:=a7p h m;cases a with
 | nil=>exact f.elim
 | cons b a =>
  obtain⟨k,g1,c,_⟩:=f;have e:=oe hl g1;subst e;refine⟨es,g,(AB c).symm,fun i t ht=>?_⟩;obtain⟨d,hd,j⟩:=Paired.nth c ht;exact⟨d,a,hd,j⟩
def dueR(ds:List Deed):Pre->Nat->Pre×Nat
 | [],k=>([],k)
 | (i,s)::q,k=>if k<((subL ds (q.reverse++[(i,s)])).getD []).length then (q.reverse++[(i,s)],k) else dueR ds q (if ww ((subL ds q.reverse).bind (·[i]?))=true then i else i+1)
theorem a4n(h:DeedX K X L t d):(∀c a m,X t=some (.tup [.str "while",c,a,.ref m])->ww (some d)=true)/\∀c a m,X t=some (.tup [.str "if",c,.ref a,.ref m])->ww (some d)=false:=by
 refine⟨fun c a m f=>?_,fun c a m f=>?_⟩
 . obtain⟨es,e,_⟩:=a0r h (.loop c a f rfl);cases h with
   | plain p g1 g2=>cases e
   | cond c' i' o' r a' b g =>
    rw[f] at g;injection g with g;injection g with g;simp at g;exact absurd g.1 (by decide +kernel)
   | loop=>rfl
 . cases h with
   | plain p g1 g2=>rfl
   | cond=>rfl
   | loop c' td i' fa pa r F P a' g =>
    rw[f] at g;injection g with g;injection g with g;simp at g;exact absurd g.1 (by decide +kernel)
theorem a2m(h:ListX K X bs bd ds):∀(q:Pre) {k:Nat}{due:Pre×Nat}{e:Option Addr},Stands X bd q.reverse k due e->due=dueR ds q k
 | [],k,due,e,hs=>by
  rcases hs with⟨l,t,ts,hl,b,f,hd,C⟩|⟨l,ts,hl,b,f⟩
  . exact hd
  . obtain⟨u,g1,g,A,_⟩:=hl.zero rfl;subst g1;have e:=oe b g;subst e;rw[A,f];rfl
 | (i,s)::q,k,due,e,hs=>by
  rw[Dk] at hs;unfold dueR;rcases hs with⟨l,t,ts,hl,b,f,hd,C⟩|⟨l,ts,hl,b,f⟩
  . obtain⟨es,m,x,_⟩:=sm h hl b;rw[m,if_pos (by show k<es.length;rw[x];exact (Aw.mp f).1)];exact hd
  . obtain⟨es,m,x,_⟩:=sm h hl.from b;rw[m,if_neg (by show ¬ k<es.length;lia)];obtain⟨E,G,s',F,t,u,ep,r,v,n,j⟩:=hl.up (by simp);obtain⟨rfl,y⟩:=a8q ep;cases y;obtain⟨p,f1,_,D⟩:=sm h r v;obtain⟨d,_,z,w⟩:=D _ _ n;rw[f1];show due=dueR ds q (if ww (p[i]?)=true then i else i+1);rw[z];rcases j with⟨c,a,o,g1,g⟩|⟨c,a,o,g1,g⟩
    . rw[(a4n w).2 _ _ _ g1,if_neg Ai];exact a2m h q g
    . rw[(a4n w).1 _ _ _ g1,if_pos rfl];exact a2m h q g
def pw(F:Str->Int):List Str->Bool
 | [f,x,y]=>r8 f (nilF F x) (nilF F y)
 | _=>false
def re(F:Str->Int)(p:Pre)(k:Nat):Deed->Pre×Nat
 | .cond r _ _=>goP (pw F r) "if" p k
 | .loop r _ _ _=>goP (pw F r) "while" p k
 | _=>(p,k+1)
theorem aci:∀{bs:List Nat}{l:Addr}{ds:List Deed},ListX K X bs l ds->∃ts:List Addr,X l=some (.lst (ts.map V.ref))
 | [],_,_,h=>h.elim
 | _::_,_,_,⟨ts,h,_⟩=>⟨ts,h⟩
theorem ac0(h:DeedX K G L t d)(hs:subD d s=some es):∃m,Side G t s m/\L m es:=by
 cases h with
 | plain p h1 h2=>cases hs
 | cond c i o r a b h hc okr hi ho =>
  match s,hs with
  | 0,hs=>cases hs;exact⟨i,.cond i o _ h (.inl ⟨rfl,rfl⟩),hi⟩
  | 1,hs=>cases hs;exact⟨o,.cond i o _ h (.inr ⟨rfl,rfl⟩),ho⟩
 | loop c td i fa pa r F P a h hc okr htd hF hP okF okP lF lP hi =>
  match s,hs with
  | 0,hs=>cases hs;exact⟨i,.loop _ _ h rfl,hi⟩
theorem yf:∀{p:Pre}{bs:List Nat}{bd:Addr}{ds:List Deed},ListX K G bs bd ds->subL ds p=some es->∃(l:Addr) (ts:List Addr),LFrom G bd p l/\G l=some (.lst (ts.map V.ref))/\ts.length=es.length/\p.length<bs.length
 | [],[],_,_,h,_=>h.elim
 | [],b::bs,bd,ds,h,hs=>by
  cases hs;obtain⟨ts,g,a,_⟩:=h;exact⟨bd,ts,rfl,g,AB a,Nat.succ_pos _⟩
 | (k,s)::p,[],_,_,h,_=>h.elim
 | (k,s)::p,b::bs,bd,ds,h,hs=>by
  obtain⟨ts,g,a,_⟩:=h;unfold subL at hs;cases e1:ds[k]? with
  | none=>rw[e1] at hs;cases hs
  | some d =>
   rw[e1] at hs
   replace hs:(subD d s).bind (fun es=>subL es p)=some es:=hs
   cases e2:subD d s with
   | none=>rw[e2] at hs;cases hs
   | some es0 =>
    rw[e2] at hs;have c:=(Aw.mp e1).1;have j:ts[k]? = some ts[k]!:=by
     rw[List.getElem!_eq_getElem?_getD,Ag (by rw[AB a];exact c)];rfl
    have r:=Paired.at2 a j e1;obtain⟨m,e,i⟩:=ac0 r e2;obtain⟨l,f,g1,q,n,o⟩:=yf (p:=p) i hs;exact⟨l,f,⟨ts,_,m,g,j,e,g1⟩,q,n,Nat.succ_lt_succ o⟩
theorem LEnd.due{X:Hp}{bd:Addr}{p:Pre}{l:Addr}{due:Pre×Nat}{e:Option Addr}(h:LEnd X bd p l due e):∃(a:Addr) (ts:List Addr),LFrom X bd due.1 a/\X a=some (.lst (ts.map V.ref))/\due.2<=ts.length/\(due.1≠[]->due.2<ts.length):=by
 induction h with
 | top ts h=>exact⟨bd,ts,rfl,h,Ak _,fun z=>absurd rfl z⟩
 | last p l ts k s t i o m c due e hl h hk ht hs hn ih=>exact ih
 | next p l ts k s t i o m t' c due e hl h hk ht hs hn ih =>
  have:=(Aw.mp hn).1;exact⟨l,ts,hl.from,h,BK this,fun _=>this⟩
 | loop p l ts k t m c d due e hl h hk ht ih =>
  have:=(Aw.mp hk).1;exact⟨l,ts,hl.from,h,BK this,fun _=>this⟩
theorem Stands.due{X:Hp}{bd:Addr}{p:Pre}{k:Nat}{due:Pre×Nat}{e:Option Addr}(h:Stands X bd p k due e):∃(a:Addr) (ts:List Addr),LFrom X bd due.1 a/\X a=some (.lst (ts.map V.ref))/\due.2<=ts.length/\(due.1≠[]->due.2<ts.length):=by
 rcases h with⟨l,t,ts,hl,c,b,rfl,d⟩|⟨l,ts,hl,c,b⟩
 . have:=(Aw.mp b).1;exact⟨l,ts,hl,c,BK this,fun _=>this⟩
 . exact hl.due
def AtP(ds:List Deed)(pp:Pre)(k:Nat):Prop:=∃es,subL ds pp=some es/\k<=es.length/\(pp≠[]->k<es.length)
theorem zf(i:ListX K G bs bd ds)(h:Stands G bd p k due e):AtP ds due.1 due.2:=by
 obtain⟨l,ts,f,d,b,g⟩:=h.due;obtain⟨es,c,a,_⟩:=sm i f d;exact⟨es,c,by rw[a];exact b,fun z=>by rw[a];exact g z⟩
theorem n0(a:ListX K G bs bd ds)(hs:subL ds p=some es)(d:k<=es.length):∃e,Stands G bd p k (dueR ds p.reverse k) e/\(dueR ds p.reverse k).1.length<=p.length:=by
 obtain⟨f,h0⟩:=aci a;obtain⟨l,ts,h,g,c,_⟩:=yf a hs;obtain⟨due,e,b,i⟩:=Stands.of h0 h g (by rw[c];exact d);have:=a2m a p.reverse (by rw[List.reverse_reverse];exact b);subst this;exact⟨e,b,i⟩
abbrev B(m:Nat):List Nat:=J8 m 30
theorem a3m:∀(p:Pre) (ds es:List Deed) (i:Nat) (d:Deed),subL ds p=some es->es[i]? = some d->d∈allL (B (p.length+1)) ds
 | [],ds,es,i,d,h,hd=>by
  cases h;exact Bt.mpr ⟨d,AE hd,Af⟩
 | (k,s)::p,ds,es,i,d,h,hd=>by
  unfold subL at h;cases h1:ds[k]? with
  | none=>rw[h1] at h;cases h
  | some d0 =>
   rw[h1] at h
   replace h:(subD d0 s).bind (fun es=>subL es p)=some es:=h
   cases h2:subD d0 s with
   | none=>rw[h2] at h;cases h
   | some es0 =>
    rw[h2] at h;have c:=a3m p es0 es i d h hd;refine Bt.mpr ⟨d0,AE h1,Al _ (Bt.mpr ⟨es0,?_,c⟩)⟩;cases d0 with
    | plain q=>cases h2
    | cond r a b =>
     match s,h2 with
     | 0,h2=>cases h2;exact Af
     | 1,h2=>cases h2;exact Al _ Af
    | loop r F P a =>
     match s,h2 with
     | 0,h2=>cases h2;exact Af
theorem a0d:∀{m n:Nat}{ds:List Deed}{d:Deed},m<=n->d∈allL (B m) ds->d∈allL (B n) ds
 | 0,_,_,_,_,h=>by cases h
 | m+1,0,_,_,hn,_=>absurd hn (Nat.not_succ_le_zero _)
 | m+1,n+1,ds,d,hn,h=>by
  have h':d∈ds.flatMap (allD (allL (B m))):=h;obtain⟨b,h0,a⟩:=Bt.mp h';refine Bt.mpr ⟨b,h0,?_⟩;rcases Ah.mp a with rfl|z
  . exact Af
  . obtain⟨es,c,hz⟩:=Bt.mp z;exact Al _ (Bt.mpr ⟨es,c,a0d (Nat.le_of_succ_le_succ hn) hz⟩)
theorem ou(h:SqT K H a xs)(k:∀o,H a=some o->(∀C d f,o≠.ins C d f)->(∀kvs,o≠.dK kvs)->(∀l,o≠.lst l)->H' a=some o):SqT K H' a xs:=by
 rcases h with (h|⟨o,h⟩)|h
 . exact .inl (.inl (k _ h (fun _ _ _ z=>by cases z) (fun _ z=>by cases z) (fun _ z=>by cases z)))
 . exact .inl (.inr ⟨o,k _ h (fun _ _ _ z=>by cases z) (fun _ z=>by cases z) (fun _ z=>by cases z)⟩)
 . exact .inr h
structure PF where
 i:Nat
 pp:Pre
 k:Nat
 F:Str->Int
 rc:Str
structure PM where
 frs:List PF
 cs:List (Int×Int×Int)
 g:Int
 fallen:Bool
def rk(pcs:List Prc)(f:PF):List Deed:=((pcs[f.i]?).map (·.body)).getD []
def resP(pcs:List Prc)(f:PF):Str:=((pcs[f.i]?).map (·.res)).getD ""
def lx(pcs:List Prc)(f:PF):Option Deed:=(subL (rk pcs f) f.pp).bind (·[f.k]?)
def ly(pcs:List Prc)(f:PF)(q:Pre×Nat):PF:={ f with pp:=(dueR (rk pcs f) q.1.reverse q.2).1,k:=(dueR (rk pcs f) q.1.reverse q.2).2 }
def uj(pcs:List Prc)(a b:PF):PF:=if a.rc = "" then b else { b with F:=upF b.F a.rc (a.F (resP pcs a)) }
def j4(pcs:List Prc):Nat->List PF->List PF
 | n+1,a::b::r=>if (lx pcs a).isNone=true then j4 pcs n (uj pcs a b::r) else a::b::r
 | _,l=>l
def putC(cs:List (Int×Int×Int))(i:Int)(v:Int×Int):List (Int×Int×Int):=if (cs.any fun c=>decide (c.1=i))=true then cs.map (fun c=>if c.1=i then (c.1,v) else c) else cs++[(i,v)]
def getC(cs:List (Int×Int×Int))(i:Int):Option (Int×Int):=(cs.find? fun c=>decide (c.1=i)).map (·.2)
def u6(cs:List (Int×Int×Int))(i:Int):List (Int×Int×Int):=cs.filter fun c=>decide (c.1≠i)
def wAt(r:List Str)(i:Nat):Str:=r.getD i ""
def oldC(cs:List (Int×Int×Int))(i:Int):Int×Int:=(getC cs i).getD (0,0)
def iw(r:List Str)(F:Str->Int)(cs:List (Int×Int×Int))(g:Int):(Str->Int)×List (Int×Int×Int)×Int :=
 if wAt r 0 = "set" then (upF F (wAt r 1) (nilF F (wAt r 2)),cs,g)
 else if wAt r 0 = "read" then (upF F (wAt r 1) (if wAt r 3 = "first" then (oldC cs (nilF F (wAt r 2))).1 else (oldC cs (nilF F (wAt r 2))).2),cs,g)
 else if wAt r 0 = "write" then (F,putC cs (nilF F (wAt r 1)) (if wAt r 2 = "first" then (nilF F (wAt r 3),(oldC cs (nilF F (wAt r 1))).2) else ((oldC cs (nilF F (wAt r 1))).1,nilF F (wAt r 3))),g)
 else if wAt r 0 = "new" then (upF F (wAt r 1) (g+1),putC cs (g+1) (nilF F (wAt r 2),nilF F (wAt r 3)),g+1)
 else (F,u6 cs (nilF F (wAt r 1)),g)
def oj:Deed->Option Str
 | .plain (.row r)=>if wAt r 0 = "read" then some (wAt r 2) else if wAt r 0 = "write" then some (wAt r 1) else if wAt r 0 = "free" then some (wAt r 1) else none
 | _=>none
def ln(cs:List (Int×Int×Int))(F:Str->Int)(d:Deed):Bool:=match oj d with
 | some x=>(getC cs (nilF F x)).isNone
 | none=>false
def qf(ps ws:List Str)(F:Str->Int):Str->Int:=fun y=>((ps.zip ws).lookup y).elim 0 (nilF F)
def idxP(pcs:List Prc)(c:Str):Nat:=pcs.findIdx fun p=>decide (p.name=c)
def psP(pcs:List Prc)(i:Nat):List Str:=((pcs[i]?).map (·.ps)).getD []
def doM(pcs:List Prc)(s:PM)(f:PF)(r:List PF):Deed->PM
 | .plain (.row w)=>⟨j4 pcs (r.length+1) ({ ly pcs f (f.pp,f.k+1) with F:=(iw w f.F s.cs s.g).1 }::r),(iw w f.F s.cs s.g).2.1,(iw w f.F s.cs s.g).2.2,false⟩
 | .plain (.call x c ws)=>⟨j4 pcs (r.length+2) (⟨idxP pcs c,[],0,qf (psP pcs (idxP pcs c)) ws f.F,x⟩::ly pcs f (f.pp,f.k+1)::r),s.cs,s.g,false⟩
 | d=>⟨j4 pcs (r.length+1) (ly pcs f (re f.F f.pp f.k d)::r),s.cs,s.g,false⟩
def ju(pcs:List Prc)(s:PM):PM:=if s.fallen=true then s else match s.frs with
 | []=>s
 | f::r=>match lx pcs f with
  | none=>s
  | some d=>if ln s.cs f.F d=true then { s with fallen:=true } else doM pcs s f r d
structure Fr where
 p:Addr
 dx:Addr
 pr:Addr
 pt:Addr
 nd:Addr
 bd:Addr
 fs:List (Str×V)
 ys:List Str
 pc:Prc
 f:PF
structure FrAt(K:Ac)(CF:Addr)(X:Hp)(pcs:List Prc)(H:Hp)(a:Fr):Prop where
 xp:X a.p=none
 xn:X a.nd=none
 hp:H a.p=some (.ins CF a.dx a.fs)
 ff:FFs a.fs a.pr a.pt a.nd a.f.rc
 lf:a.fs.length<=4
 hpt:SqT K H a.pt ((flat a.f.pp++[(a.f.k:Int)]).map V.int)
 hnd:H a.nd=some (.dK (vK a.ys a.f.F))
 hpr:∃v1 v3 v4,X a.pr=some (.tup [.str a.pc.name,v1,.str a.pc.res,v3,v4,.ref a.bd])
 L:ListX K X (B 5) a.bd a.pc.body
 at_:AtP a.pc.body a.f.pp a.f.k
 hl:a.ys.length<=20
 ym:∀y,y∈a.ys↔i5 y=true/\y∈allW (B 5) a.pc
 yn:a.ys.Nodup
 hi:pcs[a.f.i]? = some a.pc
def muM(m cd fl:Addr)(frs:List Fr):List Addr:=m::cd::fl::frs.flatMap fun a=>[a.p,a.nd]
structure StAt(K:Ac)(CF:Addr)(X:Hp)(pcs:List Prc)(H:Hp)(fl:Addr)(frs:List Fr):Prop where
 sX:Same X H
 xf:X fl=none
 hfl:H fl=some (.lst ((frs.map fun a=>V.ref a.p).reverse))
 fr:∀a∈frs,FrAt K CF X pcs H a
 np:(frs.map (·.p)).Nodup
 nn:(frs.map (·.nd)).Nodup
def a10(a b:Fr):Prop:=a.f.rc = "" \/ (a.pc.res∈a.ys/\a.f.rc∈b.ys)
def Chain:List Fr->Prop
 | a::b::r=>a10 a b/\Chain (b::r)
 | _=>True
theorem FrAt.body(h:FrAt K b X pcs H a):rk pcs a.f=a.pc.body/\resP pcs a.f=a.pc.res:=by
 unfold rk resP;rw[h.hi];exact⟨rfl,rfl⟩
theorem FrAt.keep(h:FrAt K k X pcs H a)(e:∀b o,H b=some o->(b=a.p\/b=a.nd\/((∀C d f,o≠.ins C d f)/\(∀kvs,o≠.dK kvs)/\∀l,o≠.lst l))->H' b=some o):FrAt K k X pcs H' a :=
 ⟨h.xp,h.xn,e _ _ h.hp (.inl rfl),h.ff,h.lf,ou h.hpt fun o i g c j=>e _ _ i (.inr (.inr ⟨g,c,j⟩)),e _ _ h.hnd (.inr (.inl rfl)),h.hpr,h.L,h.at_,h.hl,h.ym,h.yn,h.hi⟩
theorem FrAt.same(h:FrAt K c X pcs H a)(e:Same H H'):FrAt K c X pcs H' a:=h.keep fun b o z _=>e _ _ z
theorem StAt.same{frs:List Fr}(h:StAt K c X pcs H b frs)(e:Same H H'):StAt K c X pcs H' b frs:=⟨h.sX.trans e,h.xf,e _ _ h.hfl,fun a ha=>(h.fr a ha).same e,h.np,h.nn⟩
theorem StAt.last{frs:List Fr}(h:StAt K c X pcs H b (a::frs)):H b=some (.lst ((frs.map fun a=>V.ref a.p).reverse++[V.ref a.p])):=by rw[h.hfl,Ar,Dk]
theorem FrAt.deed(h:FrAt K o X pcs H a):∃(l:Addr) (ts:List Addr) (es:List Deed),LFrom X a.bd a.f.pp l/\X l=some (.lst (ts.map V.ref))/\subL a.pc.body a.f.pp=some es/\ts.length=es.length/\a.f.k<=es.length/\a.f.pp.length<5/\lx pcs a.f=es[a.f.k]? /\ ∀t,ts[a.f.k]? = some t->∃d bs,es[a.f.k]? = some d/\DeedX K X (ListX K X bs) t d:=by
 obtain⟨es,b,m,_⟩:=h.at_;obtain⟨l,ts,g1,e,i,c⟩:=yf h.L b;rw[HE] at c;obtain⟨j,g,_,n⟩:=sm h.L g1 e;rw[b] at g;cases g;refine⟨l,ts,es,g1,e,b,i,m,c,?_,fun t ht=>n _ _ ht⟩;unfold lx;rw[h.body.1,b];rfl
theorem StAt.pop{frs:List Fr}(h:StAt K g X pcs H e (a::frs)):StAt K g X pcs (upd H e (.lst ((frs.map fun a=>V.ref a.p).reverse))) e frs:=by
 have ne:∀{b:Addr} {o:HO},H b=some o->(∀l,o≠.lst l)->b≠e:=fun hb f z=>by rw[z,h.hfl] at hb;cases hb;exact f _ rfl
 refine⟨fun b o z=>by rw[fq (g6 z h.xf)];exact h.sX _ _ z,h.xf,ft,fun c hc=>?_,(AU.mp h.np).2,(AU.mp h.nn).2⟩;have d:=h.fr c (Al _ hc);refine d.keep fun b o z w=>?_;rw[fq];exact z;rcases w with rfl|rfl|w
 . exact ne z fun l y=>by rw[y,d.hp] at z;cases z
 . exact ne z fun l y=>by rw[y,d.hnd] at z;cases z
 . exact ne z w.2.2
theorem StAt.put(h:StAt K m X pcs H k (b::r)):StAt K m X pcs (upd H b.nd (.dK (vK b.ys g))) k ({ b with f:={ b.f with F:=g } }::r):=by
 have hb:=h.fr b Af;have ne:∀{c:Addr} {o:HO},H c=some o->(∀l,o≠.dK l)->c≠b.nd:=fun hc j z=>by rw[z,hb.hnd] at hc;cases hc;exact j _ rfl
 refine⟨fun c o z=>by rw[fq (g6 z hb.xn)];exact h.sX _ _ z,h.xf,by rw[fq (ne h.hfl fun _ z=>by cases z)];exact h.hfl,fun c hc=>?_,h.np,h.nn⟩;rcases Ah.mp hc with rfl|hc
 . exact⟨hb.xp,hb.xn,by show (upd H b.nd _) b.p=_;rw[fq (ne hb.hp fun _ z=>by cases z)];exact hb.hp,hb.ff,hb.lf,ou hb.hpt fun o e _ i _=>by rw[fq (ne e i)];exact e,ft,hb.hpr,hb.L,hb.at_,hb.hl,hb.ym,hb.yn,hb.hi⟩
 . have a:=h.fr c (Al _ hc);have nn:c.nd≠b.nd:=fun z=>(AU.mp h.nn).1 (by have y:=Br (f:=fun x:Fr=>x.nd) hc;rw[z] at y;exact y);refine a.keep fun d o z w=>?_;rw[fq];exact z;rcases w with rfl|rfl|w
   . exact ne z fun l y=>by rw[y,a.hp] at z;cases z
   . exact nn
   . exact ne z w.2.1
theorem StAt.move{due:Pre×Nat}(h:StAt K j X pcs H n (a::r))(hq:SqT K H i ((flat due.1++[(due.2:Int)]).map V.int))(ff:FFs fs' a.pr i a.nd a.f.rc)(lf:fs'.length=a.fs.length)(e:AtP a.pc.body due.1 due.2):StAt K j X pcs (upd H a.p (.ins j a.dx fs')) n ({ a with pt:=i,fs:=fs',f:={ a.f with pp:=due.1,k:=due.2 } }::r):=by
 have hb:=h.fr a Af;have ne:∀{c:Addr} {o:HO},H c=some o->(∀C d f,o≠.ins C d f)->c≠a.p:=fun hc m z=>by rw[z,hb.hp] at hc;cases hc;exact m _ _ _ rfl
 refine⟨fun c o z=>by rw[fq (g6 z hb.xp)];exact h.sX _ _ z,h.xf,by rw[fq (ne h.hfl fun _ _ _ z=>by cases z)];exact h.hfl,fun c hc=>?_,h.np,h.nn⟩;rcases Ah.mp hc with rfl|hc
 . exact⟨hb.xp,hb.xn,ft,ff,by show fs'.length<=4;rw[lf];exact hb.lf,ou hq fun o g l _ _=>by rw[fq (ne g l)];exact g,by show (upd H a.p _) a.nd=_;rw[fq (ne hb.hnd fun _ _ _ z=>by cases z)];exact hb.hnd,hb.hpr,hb.L,e,hb.hl,hb.ym,hb.yn,hb.hi⟩
 . have b:=h.fr c (Al _ hc);have np:c.p≠a.p:=fun z=>(AU.mp h.np).1 (by have y:=Br (f:=fun x:Fr=>x.p) hc;rw[z] at y;exact y);refine b.keep fun d o z w=>?_;rw[fq];exact z;rcases w with rfl|rfl|w
   . exact np
   . exact ne z fun C d f y=>by rw[y,b.hnd] at z;cases z
   . exact ne z w.1
theorem StAt.push{frs:List Fr}(h:StAt K f X pcs H e frs)(hn:FrAt K f X pcs H n)(np:n.p∉frs.map (·.p))(nn:n.nd∉frs.map (·.nd)):StAt K f X pcs (upd H e (.lst ((frs.map fun a=>V.ref a.p).reverse++[V.ref n.p]))) e (n::frs):=by
 have ne:∀{b:Addr} {o:HO},H b=some o->(∀l,o≠.lst l)->b≠e:=fun hb g z=>by rw[z,h.hfl] at hb;cases hb;exact g _ rfl
 have go:∀c,FrAt K f X pcs H c->FrAt K f X pcs (upd H e (.lst ((frs.map fun a=>V.ref a.p).reverse++[V.ref n.p]))) c:=fun c d=>by
  refine d.keep fun b o z w=>?_;rw[fq];exact z;rcases w with rfl|rfl|w
  . exact ne z fun l y=>by rw[y,d.hp] at z;cases z
  . exact ne z fun l y=>by rw[y,d.hnd] at z;cases z
  . exact ne z w.2.2
 refine⟨fun b o z=>by rw[fq (g6 z h.xf)];exact h.sX _ _ z,h.xf,by rw[ft,Ar,Dk],fun c hc=>?_,AU.mpr ⟨np,h.np⟩,AU.mpr ⟨nn,h.nn⟩⟩;rcases Ah.mp hc with rfl|hc
 . exact go _ hn
 . exact go c (h.fr c hc)
def mi(a b:Fr):Fr:=if a.f.rc = "" then b else { b with f:={ b.f with F:=upF b.f.F a.f.rc (a.f.F a.pc.res) } }
theorem a39(a b:Fr):(mi a b).nd=b.nd/\(mi a b).p=b.p/\(mi a b).ys=b.ys/\(mi a b).pc=b.pc/\(mi a b).f.rc=b.f.rc:=by
 unfold mi;split<;>exact⟨rfl,rfl,rfl,rfl,rfl⟩
theorem Chain.give(h:Chain (a::b::r)):Chain (mi a b::r):=by
 have d:=h.2;obtain⟨j,i,f,e,g⟩:=a39 a b;cases r with
 | nil=>trivial
 | cons c r=>exact⟨by unfold a10;rw[f,e,g];exact d.1,d.2⟩
theorem aec(h:FrAt K c X pcs H a):(mi a b).f=uj pcs a.f b.f:=by
 unfold mi uj;rw[h.body.2];split<;>rfl
def KpS(fl:Addr)(frs:List Fr)(H H':Hp):Prop:=∀b o,H b=some o->b≠fl->b∉frs.map (·.p)->b∉frs.map (·.nd)->H' b=some o
inductive spLeave(K:Ac)(CM CF:Addr)(vs:List V)(H:Hp)(Q:VK)(E:XK):Prop
 | mk (X:Hp)(m dm pd fl cd:Addr)(fm:List (Str×V))(g:Int)(b:Bool)(pcs:List Prc)(a:Fr)(frs:List Fr)(h0:vs=[.ref m])(hm:H m=some (.ins CM dm fm))(hM:MFs fm pd fl cd g b)(hS:StAt K CF X pcs H fl (a::frs))(hc:Chain (a::frs))(q:∀H' a' frs',StAt K CF X pcs H' fl (a'::frs')->Chain (a'::frs')->(a'::frs').map (·.f)=j4 pcs (frs.length+1) ((a::frs).map (·.f))->KpS fl (a::frs) H H'->H' m=some (.ins CM dm fm)->(∀c∈a'::frs',c.p∈(a::frs).map (·.p)/\c.nd∈(a::frs).map (·.nd))->Q .non H'):spLeave K CM CF vs H Q E
theorem a9m(C:Con K mg w)(T:TxM K mg N fI)(U:TxF K mg D fJ)(F:Fun K "leave_ended" "Machine.leave_ended" a3x f fd)(GD:FnOk P w K mg base CX0 4 gD dD ["self"] (vt K D))(cD:MCal K D "deed" gD dD ["self"]):FnOk P w K mg base CX0 5 f fd ["self"] (spLeave K N D):=by
 refine F.okA ["self","ended"] fun av A outer s0 H vs Q E hr h nd=>?_;obtain⟨X,m,R,pd,u,cd,W,g,b,pcs,Z,j,rfl,aq,hM,ak,am,q⟩:=h;have ae:=kx hr;refine⟨_,(fz (qi AO (QW.qt (ph (gi wp (ii (lenK (K:=K) rfl) rfl C.len AV (jf (i4 (K:=K) rfl (qv 0)) ad)) fu (gn _)) (ng (gi a2i (jj (i0 K (i4 (K:=K) rfl (qv 0)) (jv jl fu)) U.cl cD.meth GD hr cD.bind .nil im) oq (gn _))))) (fw (gp 1 nd (a15 AM EW EX a2s (i4 (K:=K) rfl (qv 0))))
  (fz (ie (gi ri (i4 (K:=K) rfl (qv 1)) i7 (gn _)) (fz (jy ae (i4 (K:=K) rfl (i0 K (i4 (K:=K) rfl (qv 0)) (jv jl fu))) (i4 (K:=K) rfl (qv 1)) (ml ae (i4 (K:=K) rfl (qv 1)) (gz K (i4 (K:=K) rfl (qv 1)) fu) (fun _ _=>rfl)))) iq))))),?_⟩
 refine⟨fun n σ H'=>∃(a:Fr) (frs:List Fr) (z1:Option V),n=frs.length/\σ=[some (.ref m),z1]/\StAt K D X pcs H' u (a::frs)/\Chain (a::frs)/\j4 pcs (frs.length+1) ((a::frs).map (·.f))=j4 pcs (j.length+1) ((Z::j).map (·.f))/\KpS u (Z::j) H H'/\H' m=some (.ins N R W)/\(∀c∈a::frs,c.p∈(Z::j).map (·.p)/\c.nd∈(Z::j).map (·.nd)),⟨j.length,Z,j,none,rfl,rfl,ak,am,rfl,fun _ _ z _ _ _=>z,aq,fun c hc=>⟨Br hc,Br hc⟩⟩,?_⟩;rintro n σ H1 ⟨a,frs,z1,rfl,rfl,S,ch,eq,kp,hm,G⟩;have v:=S.fr a Af;have M:∀r:List Fr,((r.map fun a=>V.ref a.p).reverse).length=r.length:=fun r=>by rw[Eg,Ad]
 refine⟨_,rfl,m,N,R,W,_,rfl,hm,T.cl,T.nF,hM.frames,u,_,rfl,.inl (SqL.of S.hfl),_,_,rfl,rfl,_,rfl,iteB (fun c1=>?_) (fun c1=>?_)⟩;have O:=S.last
 . rw[M] at c1;obtain⟨d,r,rfl⟩:∃d r,frs=d::r:=by
    cases frs with
    | nil=>exact absurd (of_decide_eq_true c1) (by simp)
    | cons d r=>exact⟨d,r,rfl⟩
   obtain⟨v1,v3,v4,hpr⟩:=v.hpr;obtain⟨l,ts,es,d1,d2,d3,d4,d5,d6,d7,_⟩:=v.deed;refine⟨_,rfl,m,N,R,W,_,rfl,hm,T.cl,T.nF,hM.frames,_,rfl,u,_,_,_,rfl,rfl,SqL.of O,jd,a.p,a.dx,a.fs,rfl,v.hp,v.ff.meth _ (by simp),a.p,a.dx,a.pr,a.pt,a.nd,a.bd,a.fs,a.f.rc,_,v1,_,v3,v4,rfl,v.hp,v.ff,S.sX _ _ hpr,a.bd,a.pt,l,a.f.pp,a.f.k,ts,rfl,v.hpt,d1.same S.sX,by lia,S.sX _ _ d2,fun t H2 ht L=>?_,fun H2 hn L=>?_⟩
   . have au:=(Aw.mp ht).1;refine⟨rfl,_,rfl,iteB (fun c=>by cases c) (fun _=>?_)⟩;have aa:(lx pcs a.f).isNone≠true:=by rw[d7,Ag (by lia)];exact Ai
     have e:=eq;rw[show j4 pcs ((d::r).length+1) ((a::d::r).map (·.f))=(a::d::r).map (·.f) from if_neg aa] at e;exact q _ a (d::r) (S.same L) ch e (fun b o z n1 n2 n3=>L _ _ (kp b o z n1 n2 n3)) (L _ _ hm) G
   . have ab:(lx pcs a.f).isNone=true:=by
      rcases Gz a.f.k ts.length with z|z
      . rw[Ag z] at hn;cases hn
      . rw[d7,Bu (by lia)];rfl
     have S2:=S.same L;have J:=S2.fr a Af;have s:=L _ _ O;have ac:=L _ _ hm;refine⟨rfl,_,rfl,iteB (fun _=>?_) (fun c=>by cases c)⟩;refine⟨fun σ' H'=>∃z1,σ'=[some (.ref m),z1]/\StAt K D X pcs H' u (mi a d::r)/\KpS u (Z::j) H H'/\H' m=some (.ins N R W),fun σ' H' hN=>?_,?_⟩
     . obtain⟨ar,rfl,S',ao,an⟩:=hN;obtain⟨g1,g2,_⟩:=a39 a d;refine⟨r.length,Ci _,mi a d,r,ar,rfl,rfl,S',ch.give,?_,ao,an,fun c hc=>?_⟩
       . rw[<- eq,show j4 pcs ((d::r).length+1) ((a::d::r).map (·.f))=j4 pcs (r.length+1) (uj pcs a.f d.f::r.map (·.f)) from if_pos ab,Ar,aec v]
       . rcases Ah.mp hc with rfl|hc
         . rw[g1,g2];exact G d (Al _ Af)
         . exact G c (Al _ (Al _ hc))
     . have aj:(((d::r).map fun a=>V.ref a.p).reverse++[V.ref a.p]).dropLast=((d::r).map fun a=>V.ref a.p).reverse:=Fj;have ai:(((d::r).map fun a=>V.ref a.p).reverse++[V.ref a.p])[(((d::r).map fun a=>V.ref a.p).reverse++[V.ref a.p]).length - 1]? = some (V.ref a.p):=by
        rw[Aj,Ba,FD];exact DW
       refine g8 (a:=tAsg _ _) fun D1 al _ _=>?_;refine⟨_,rfl,m,N,R,W,_,rfl,ac,T.cl,T.nF,hM.frames,.inl ⟨rfl,_,SqL.of s⟩,u,_,_,rfl,rfl,s,ai,?_⟩;rw[aj];have S3:=S2.pop;have Y:KpS u (Z::j) H (upd H2 u (.lst (((d::r).map fun a=>V.ref a.p).reverse))):=fun b o z n1 n2 n3=>by rw[fq n1];exact L _ _ (kp b o z n1 n2 n3)
       have I:(upd H2 u (.lst (((d::r).map fun a=>V.ref a.p).reverse))) a.p=some (.ins D a.dx a.fs):=by rw[fq (fun z=>by have y:=J.hp;rw[z,s] at y;cases y)];exact J.hp
       have ah:(upd H2 u (.lst (((d::r).map fun a=>V.ref a.p).reverse))) a.nd=some (.dK (vK a.ys a.f.F)):=by rw[fq (fun z=>by have y:=J.hnd;rw[z,s] at y;cases y)];exact J.hnd
       have x:(upd H2 u (.lst (((d::r).map fun a=>V.ref a.p).reverse))) m=some (.ins N R W):=by rw[fq (fun z=>by have y:=ac;rw[z,s] at y;cases y)];exact ac
       generalize upd H2 u (.lst (((d::r).map fun a=>V.ref a.p).reverse))=H3 at S3 Y I ah x |-;refine al [some (.ref m),some (.ref a.p)] _ ?_;refine⟨_,rfl,a.p,D,a.dx,a.fs,_,rfl,I,U.cl,U.nR,v.ff.receiver,rfl,_,rfl,iteB (fun c=>?_) (fun c=>?_)⟩
       . have ag:a.f.rc ≠ "" := fun z=>by rw[z] at c;exact absurd c (by decide +kernel)
         obtain⟨h1,h2⟩:=ch.1.resolve_left ag;have Sb:=S3.fr d Af;have af:=S3.last;have gd:=DGet.k (k:=Sum.inr a.pc.res) ah;rw[wr h1] at gd;refine⟨_,rfl,a.p,D,a.dx,a.fs,_,rfl,I,U.cl,U.nN,v.ff.numbers,_,rfl,a.p,D,a.dx,a.fs,_,rfl,I,U.cl,U.nP,v.ff.procedure,a.pr,_,2,_,rfl,rfl,SqT.of (S3.sX _ _ hpr),rfl,a.nd,_,rfl,gd,?_⟩;refine⟨_,rfl,m,N,R,W,_,rfl,x,T.cl,T.nF,hM.frames,_,rfl,u,_,_,_,rfl,rfl,SqL.of af,jd,d.p,D,d.dx,d.fs,_,rfl,Sb.hp,U.cl,U.nN,Sb.ff.numbers,_,rfl,a.p,D,a.dx,a.fs,_,rfl,I,U.cl,U.nR,v.ff.receiver,d.nd,_,rfl,DPut.k (k:=Sum.inr a.f.rc) Sb.hnd (j6 (by unfold vK;rw[Ad];have:=Sb.hl;lia)),?_⟩;rw[yv h2];refine⟨_,rfl,?_,fun c o z n1 n2 n3=>?_,?_⟩
         . rw[show mi a d={ d with f:={ d.f with F:=upF d.f.F a.f.rc (a.f.F a.pc.res) } } from if_neg ag];exact S3.put
         . rw[fq (fun e=>n3 (by rw[e];exact (G d (Al _ Af)).2))];exact Y c o z n1 n2 n3
         . rw[fq (fun z=>by have y:=x;rw[z,Sb.hnd] at y;cases y)];exact x
       . have ap:a.f.rc = "" := by
          rw[Bool.not_eq_false'] at c;exact V.str.inj (of_decide_eq_true c)
         refine⟨_,rfl,?_,Y,x⟩;rw[show mi a d=d from if_pos ap];exact S3
 . have e1:frs=[]:=by
    cases frs with
    | nil=>rfl
    | cons d r=>rw[M] at c1;exact absurd (show ((a::d::r).length:Int)>1 by simp only[AC];lia) (of_decide_eq_false c1)
   subst e1;exact (if_neg Ai).mpr (q _ a [] S ch eq kp hm G)
end K56
namespace L2
open PySem PySem.Spec PyProof.Rows
theorem a7q(D:ZipApart z h to j k s r)(g1:IsZip u.heap z h to .none)(Y:IsPair u.heap h (.ref j) (.ref k))(W:IsPair u.heap to a b)(t1:u.heap.IsTupleIter j s k1)(t2:u.heap.IsListIter k r k2)(S:u.heap.IsTuple s xs)(O:u.heap.IsList r ys)(P:xs[k1]? = some x)(hy:ys[k2]? = some y)(hR:∀g,IsZip g z h to (rawInt u.heap.objs.size)->IsPair g to x y->g.IsTupleIter j s (k1+1)->g.IsListIter k r (k2+1)->IsPair g u.heap.objs.size x y->
 (∀c o,c≠z->c≠to->c≠j->c≠k->u.heap.get? c=some o->g.get? c=some o)->R (some (.ref u.heap.objs.size)) { u with heap:=g }):wpAny (model prog w) A (pyNext (.ref z)) R E u:=by
 have ty:u.TypeIs (.ref z) "zip" := ⟨_,g1,rfl⟩
 unfold pyNext;refine Aa (Di (Bm ty Cf (Bp Cf ty Eb ?_ (DO _))));show wpAny (model prog w) _ (field (.ref z) 2 >>= _) _ _ u;refine Aa (Bn g1 rfl (x:=.bool false) rfl ?_);show wpAny (model prog w) _ (field (.ref z) 3 >>= _) _ _ u;refine Aa (Bn g1 rfl (x:=.ref h) rfl (Aa (Bl Y rfl ?_)));show wpAny (model prog w) _ (AS (.ref z) >>= _) _ _ u;refine Aa ?_;unfold AS;refine Aa (Bn g1 rfl (x:=.none) rfl (Ae ?_));simp only[if_true];refine Aa (Cz (Aa (Bn g1 rfl (x:=.ref to) rfl (Aa (Bq g1 (by simp) fun m1 y1 i=>?_)))));have N:IsZip m1 z h to .ellipsis:=y1;refine Aa ?_;simp only[Gs,Hg,DE,DT];refine Aa (Aa (ER ?_));show wpAny (model prog w) _ (Be (.ref j) >>= _) _ _ _;refine Aa (a0w (t1.extBut i.extBut D.i1z) (S.extBut i.extBut D.l1z) P fun m2 y2 l=>Ae ?_);have J:IsPair m2 to a b:=l.extBut _ _ D.TOi1 (i.extBut _ _ D.TOz W);refine Aa (Bl J rfl (Aa (Ec J fun m3 M m=>Aa (DJ (Ae ?_)))));have T:IsPair m3 to x b:=M;refine Aa (Aa (ER ?_));show wpAny (model prog w) _ (Be (.ref k) >>= _) _ _ _;have w2:=((t2.extBut i.extBut D.i2z).extBut l.extBut D.i12.symm).extBut m.extBut D.TOi2.symm;have x2:=((O.extBut i.extBut D.l2z).extBut l.extBut D.l2i1).extBut m.extBut D.l2TO;refine Aa (Hx w2 x2 hy fun Q y4 n=>Ae ?_);have H:IsPair Q to x b:=n.extBut _ _ D.TOi2 T;refine Aa (Bl H rfl (Aa (Ec H fun d y5 p=>Aa (DJ (Ae (Ae ?_))))));have L:IsPair d to x y:=y5;refine Aa (Bl L rfl (Aa (HQ ?_)));have sz:d.objs.size=u.heap.objs.size:=by rw[p.1,n.1,m.1,l.1,i.1]
 have v:IsZip d z h to .ellipsis:=p.extBut _ _ D.TOz.symm (n.extBut _ _ D.i2z.symm (m.extBut _ _ D.TOz.symm (l.extBut _ _ D.i1z.symm N)));have kp:∀c o,c≠z->c≠to->c≠j->c≠k->u.heap.get? c=some o->d.get? c=some o:=fun c o n1 n2 n3 n4 e=>p.extBut _ _ n2 (n.extBut _ _ n4 (m.extBut _ _ n2 (l.extBut _ _ n3 (i.extBut _ _ n1 e))));have p1:d.IsTupleIter j s (k1+1):=((y2.extBut m.extBut D.TOi1.symm).extBut n.extBut D.i12).extBut p.extBut D.TOi1.symm;have p2:d.IsListIter k r (k2+1):=y4.extBut p.extBut D.TOi2.symm;show wpAny (model prog w) _ (Ck (.ref z) (.ref d.objs.size) >>= _) _ _ _;refine Aa ?_;unfold Ck;have Z:IsZip (d.push { cls:=.type "tuple",data:=.seq #[x,y] }) z h to .ellipsis:=Ab _ v;refine Aa (Bq Z (by simp) fun U y7 I=>?_);have z7:IsZip U z h to (rawInt d.objs.size):=y7;refine Bq z7 (by simp) fun q X C=>?_;have t:IsZip q z h to (rawInt d.objs.size):=X;have f:∀c o,c≠z->d.get? c=some o->q.get? c=some o:=fun c o n1 e=>C.extBut _ _ n1 (I.extBut _ _ n1 (Ab _ e));have G:d.objs.size≠z:=BX (As v);have np:IsPair q d.objs.size x y:=C.extBut _ _ G (I.extBut _ _ G (An _ rfl));rw[sz] at t np;refine Ae ⟨_,rfl,Ae ?_⟩;show R (some (.ref d.objs.size)) _;rw[sz];exact hR q t (f _ _ D.TOz L) (p1.at fun o e=>f _ o D.i1z e) (p2.at fun o e=>f _ o D.i2z e) np fun c o n1 n2 n3 n4 e=>f c o n1 (kp c o n1 n2 n3 n4 e)
theorem a8d(I:Inv X a σ H s)(h:SqL X.K H l xs)(f:FpOk X a H l):False:=by
 rcases h with (q|⟨o,q⟩)|⟨o,its,n,q,_⟩
 . rw[f.1] at q;cases q
 . rw[f.1] at q;cases q
 . have e:=I.ok.mod.kin _ _ q;rcases f.2.2.2.1 with z|z
   . exact I.ok.noex l o e z
   . exact absurd (AK (As e) (Ax I.ok.bsz z)) (Bx _)
theorem a7y(l1 l2:Addr)(xs ys:Array Value):Meets (Builtin.«zip.__new__» ⟨[.type "zip",.ref l1,.ref l2],[]⟩) (fun _ R s=>s.heap.IsTuple l1 xs/\s.heap.IsList l2 ys/\
 R (.ok (.ret (.ref (s.heap.objs.size+4)))) { s with heap:=((((s.heap.push { cls:=.type "tuple_iterator",data:=.fields #[.ref l1,.int 0 0] }).push { cls:=.type "list_iterator",data:=.fields #[.ref l2,.int 0 0] }).push { cls:=.type "tuple",data:=.seq #[.ref s.heap.objs.size,.ref (s.heap.objs.size+1)] }).push { cls:=.type "tuple",data:=.seq #[.none,.none] }).push { cls:=.type "zip",data:=.fields #[.none,.bool false,.bool false,.ref (s.heap.objs.size+2),.ref (s.heap.objs.size+3)] } }) :=
 .of_wp fun prog w A R s h=>by
  obtain⟨m,g,d,tk,os⟩:=s;obtain⟨f,c,h⟩:=h;have sub:=sub_zip;have b:IQ (Ht ⟨m,g,d,tk,os⟩) l1 xs:=f;have a:JR (Ht ⟨m.push { cls:=.type "tuple_iterator",data:=.fields #[.ref l1,.int 0 0] },g,d,tk,os⟩) l2 ys:=by
   obtain⟨o,e,r⟩:=c;exact⟨o,Ab _ e,r⟩
  have i:(m.push { cls:=.type "tuple_iterator",data:=.fields #[.ref l1,.int 0 0] }).objs.size=m.objs.size+1:=Bj ..
  wp_walk using Em b,Cp a
  refine⟨_,rfl,?_⟩;simp only[Bj];exact h
end L2
namespace Kz
open PySem PyProof.Rows
theorem a02:typeLookup (.type "zip") "keys" = pure none:=by rw[Dc,Cg];kernel_rfl
theorem a5s:typeLookup (.type "zip") "__getattr__" = pure none:=by rw[Dc,Cg];kernel_rfl
theorem sr:isSubtype (.type "AttributeError") (.type "AttributeError")=pure true:=by rw[E9];kernel_rfl
theorem a1d:entryFor table "zip.__getattribute__" = some Builtin.«object.__getattribute__» := HH (id' := "object.__getattribute__") (by kernel_rfl) (by first|rfl|decide +kernel) (by decide +kernel) (by kernel_rfl)
set_option maxHeartbeats 16000000 in
theorem a5n{os:OsState}(p:A.handled=none)(o:h.get? a=some { cls:=.type "zip",dict:=none,data:=.fields xs,slots:=s })(hq:∀h' e t',(∀b u,h.get? b=some u->h'.get? b=some u)->(∃c,h'.get? e=some c/\c.cls=.type "AttributeError")->h.objs.size<=h'.objs.size->E (.ref e) ⟨h',g,d,t',os⟩):
 wpAny (model prog w) A (Builtin.«object.__getattribute__» ⟨[.ref a,.str "keys" tk],[]⟩) Q E ⟨h,g,d,t,os⟩:=by
 have r:(⟨h,g,d,t,os⟩:Shared).TypeIs (.ref a) "zip" := ⟨_,o,rfl⟩
 have v:=a02
 repeat (any_goals (first|assumption|wp_step))
 have hm:(Bf (toString "'" ++ toString ((Fw "zip").elim "zip" fun x=>x.tpName)++toString "' object has no attribute '")++Bf "keys" ++ Bf "'").length<=sizeLine:=by decide +kernel
 generalize (Bf (toString "'" ++ toString ((Fw "zip").elim "zip" fun x=>x.tpName)++toString "' object has no attribute '")++Bf "keys" ++ Bf "'")=i at hm |-;unfold raiseAttrError
 repeat (any_goals (first|assumption|wp_step))
 have q:isSubtype (.type "AttributeError") (.type "AttributeError")=pure true:=sr;dsimp only
 repeat (any_goals (first|assumption|wp_step))
 generalize hO:({ cls:=Value.type "AttributeError",data:=_ }:Obj)=c;generalize hT2:({ cls:=Value.type "tuple",data:=Data.seq #[Value.str i t] }:Obj)=k;have l:c.cls=.type "AttributeError" := by rw[<- hO]
 have f:∃vs,c.data=.fields vs:=⟨_,by rw[<- hO]⟩
 obtain⟨vs,m⟩:=f;have n:((h.push k).push c).get? (h.push k).objs.size=some c:=An _ (by rw[<- hO];rfl);refine Fn p (hq _ _ _ (fun b u hb=>?_) ⟨_,B7 _ n (DS (CV m _)),(EJ ..).trans l⟩ ?_)
 . have j:=As (Ab k hb);rw[Io _ _ _ _ (AA j)];exact Ab _ (Ab _ hb)
 . rw[Jj,size_push',size_push'];lia
set_option maxHeartbeats 16000000 in
theorem attr{os:OsState}(n:A.handled=none)(c:h.get? a=some { cls:=.type "zip",dict:=none,data:=.fields xs,slots:=s })(hq:∀h' t',(∀b u,h.get? b=some u->h'.get? b=some u)->h.objs.size<=h'.objs.size->Q none ⟨h',g,d,t',os⟩):wpAny (model prog w) A (getAttr? (.ref a) "keys") Q E ⟨h,g,d,t,os⟩:=by
 have q:(⟨h,g,d,t,os⟩:Shared).TypeIs (.ref a) "zip" := ⟨_,c,rfl⟩
 have f:(⟨h,g,d,t+1,os⟩:Shared).TypeIs (.ref a) "zip" := ⟨_,c,rfl⟩
 have f2:=F.slot_zip_getattribute.lookup;have v:=F.slot_zip_getattribute.bind (.ref a);have p:isSubtype (.type "AttributeError") (.type "AttributeError")=pure true:=sr;unfold getAttr? getAttrBy?
 repeat (any_goals (first|assumption|wp_step))
 refine DY F.slot_zip_getattribute.plain a1d (F.slot_zip_getattribute.check _ _ _ _ _ _ _ _ f (F.args_zip_getattribute_2 _ _) (a5n ?_ c fun h' e t' k m hs=>?_))
 . exact n
 obtain⟨x,j,i⟩:=m;have o:(⟨h',g,d,t',os⟩:Shared).TypeIs (.ref e) "AttributeError" := ⟨_,j,i⟩
 have r:=a5s;have l:=hq h' t' k hs;show wpAny (model prog w) A (getattributeRaised (Value.ref a) (Value.str (Bf "keys") t) (Value.type "zip") (.ref e) none false false) _ _ _
 repeat (any_goals (first|assumption|wp_step))
end Kz
namespace L2
open PySem PySem.Spec PyProof.Rows
abbrev IsZ2(h:Heap)(z ti to T:Addr)(f:Bool):Prop:=h.get? z=some { cls:=.type "zip",dict:=none,data:=.fields #[rawInt T,.bool f,.bool false,.ref ti,.ref to],slots := #[] }
theorem a06(g1:IsZ2 u.heap z h to T f)(e:IsPair u.heap T a b)(c:∀g,IsZ2 g z h to T true->Cu z u.heap g->Q false { u with heap:=g }):wpAny (model prog w) A (AS (.ref z)) Q E u:=by
 unfold AS;refine Aa (Bn g1 rfl (x:=rawInt T) rfl ?_);show wpAny _ _ (loadIfAlive T >>= _) _ _ _;refine Aa (PySem.W.kdx_alive e ?_);rw[if_neg (by simp)];refine Aa (Bn g1 rfl (x:=.bool f) rfl ?_);cases f with
 | false =>
  rw[if_pos (by decide)];refine Aa (Bq g1 (by simp) fun m y d=>Ae (c m y d))
 | true =>
  rw[if_neg (by decide)];exact Ae (c u.heap g1 ⟨rfl,fun _ _=>rfl⟩)
theorem a7j(D:ZipApart z h to j k p n)(M:T≠z)(g1:IsZ2 u.heap z h to T f)(s:IsPair u.heap T a b)(G:IsPair u.heap h (.ref j) (.ref k))(t1:u.heap.IsTupleIter j p k1)(t2:u.heap.IsListIter k n k2)(C:u.heap.IsTuple p xs)(t:u.heap.IsList n ys)(v:xs[k1]? = some x)(r:ys[k2]? = some y)(L:∀g,IsZ2 g z h to T true->g.IsTupleIter j p (k1+1)->g.IsListIter k n (k2+1)->IsPair g u.heap.objs.size x y->
 (∀c o,c≠z->c≠j->c≠k->u.heap.get? c=some o->g.get? c=some o)->R (some (.ref u.heap.objs.size)) { u with heap:=g }):wpAny (model prog w) A (pyNext (.ref z)) R E u:=by
 have ty:u.TypeIs (.ref z) "zip" := ⟨_,g1,rfl⟩
 unfold pyNext;refine Aa (Di (Bm ty Cf (Bp Cf ty Eb ?_ (DO _))));show wpAny (model prog w) _ (field (.ref z) 2 >>= _) _ _ u;refine Aa (Bn g1 rfl (x:=.bool false) rfl ?_);show wpAny (model prog w) _ (field (.ref z) 3 >>= _) _ _ u;refine Aa (Bn g1 rfl (x:=.ref h) rfl (Aa (Bl G rfl ?_)));show wpAny (model prog w) _ (AS (.ref z) >>= _) _ _ u;refine Aa (a06 g1 s fun m1 I d=>?_);simp only[if_false,By];refine Aa ?_;rw[<- IS];simp only[DE,DT];refine Aa (Aa (AX ?_));show wpAny (model prog w) _ (Be (.ref j) >>= _) _ _ _;refine Aa (a0w (t1.extBut d.extBut D.i1z) (C.extBut d.extBut D.l1z) v fun m2 H l=>Ae (Ae ?_));refine Aa (Aa (AX ?_));show wpAny (model prog w) _ (Be (.ref k) >>= _) _ _ _;refine Aa (Hx ((t2.extBut d.extBut D.i2z).extBut l.extBut D.i12.symm) ((t.extBut d.extBut D.l2z).extBut l.extBut D.l2i1) r fun i q m=>Ae (Ae (Ae ?_)));have sz:i.objs.size=u.heap.objs.size:=by rw[m.1,l.1,d.1]
 have J:IsZ2 i z h to T true:=m.extBut _ _ D.i2z.symm (l.extBut _ _ D.i1z.symm I);refine Aa (HQ (hsz:=show 2<=sizeLine by decide) (Ae ?_));refine⟨_,rfl,Ae ?_⟩;show R (some (.ref i.objs.size)) _;rw[sz];have np:IsPair (i.push { cls:=.type "tuple",data:=.seq #[x,y] }) i.objs.size x y:=An _ rfl;rw[sz] at np;exact L _ (Ab _ J) ((H.extBut m.extBut D.i12).at fun o e=>Ab _ e) (q.at fun o e=>Ab _ e) np fun c o n1 n2 n3 e=>Ab _ (m.extBut _ _ n3 (l.extBut _ _ n2 (d.extBut _ _ n1 e)))
theorem a8w(v:A.handled=none)(D:ZipApart z h to d y j H)(g1:IsZ2 u.heap z h to T f)(k:IsPair u.heap T a b)(s:IsPair u.heap h (.ref d) (.ref y))(t1:u.heap.IsTupleIter d j k1)(n:u.heap.IsTuple j xs)(p:xs[k1]? = none)(G:∀g,(∀c o,c≠z->c≠d->u.heap.get? c=some o->g.get? c=some o)->R none { u with heap:=g }):wpAny (model prog w) A (pyNext (.ref z)) R E u:=by
 have ty:u.TypeIs (.ref z) "zip" := ⟨_,g1,rfl⟩
 unfold pyNext;refine Aa (Di (Bm ty Cf (Bp Cf ty Eb ?_ (DO _))));show wpAny (model prog w) _ (field (.ref z) 2 >>= _) _ _ u;refine Aa (Bn g1 rfl (x:=.bool false) rfl ?_);show wpAny (model prog w) _ (field (.ref z) 3 >>= _) _ _ u;refine Aa (Bn g1 rfl (x:=.ref h) rfl (Aa (Bl s rfl ?_)));show wpAny (model prog w) _ (AS (.ref z) >>= _) _ _ u;refine Aa (a06 g1 k fun m1 I i=>?_);simp only[if_false,By];refine Aa ?_;rw[<- IS];simp only[DE,DT];refine Aa (Aa (AX ?_));show wpAny (model prog w) _ (Be (.ref d) >>= _) _ _ _;refine Aa (a0q v (t1.extBut i.extBut D.i1z) (n.extBut i.extBut D.l1z) p fun m2 e C t=>?_);obtain⟨r,m,l⟩:=t;refine Aa (DZ (T := "StopIteration") (b:=true) ⟨r,m,l⟩ Ft ?_);exact Ae (G m2 fun c o n1 n3 q=>C _ _ n3 (i.extBut _ _ n1 q))
inductive ZSt(h:Heap)(n l1 l2 p:Addr):Nat->Prop
 | z0 (a b:Value)(g1:IsZip h (n+4) (n+2) (n+3) .none)(g2:IsPair h (n+2) (.ref n) (.ref (n+1)))(g3:IsPair h (n+3) a b)(t1:h.IsTupleIter n l1 0)(t2:h.IsListIter (n+1) l2 0):ZSt h n l1 l2 p 0
 | zs (i:Nat)(T:Addr)(f:Bool)(a b:Value)(hT:p<T)(g1:IsZ2 h (n+4) (n+2) (n+3) T f)(gT:IsPair h T a b)(g2:IsPair h (n+2) (.ref n) (.ref (n+1)))(t1:h.IsTupleIter n l1 (i+1))(t2:h.IsListIter (n+1) l2 (i+1)):ZSt h n l1 l2 p (i+1)
theorem ZSt.keep(z:ZSt h n l1 l2 p i)(hn:n+4<p)(k:∀c o,c≠p->h.get? c=some o->h'.get? c=some o):ZSt h' n l1 l2 p i:=by
 have g:n+4≠p:=AA hn;have d:n+2≠p:=AA (AN (Cc (show 2<=4 by decide) n) hn);have m:n+3≠p:=AA (AN (Cc (show 3<=4 by decide) n) hn);have l:n≠p:=AA (AN (B9 n 4) hn);have j:n+1≠p:=AA (AN (Cc (show 1<=4 by decide) n) hn);cases z with
 | z0 a b g1 g2 g3 t1 t2=>exact .z0 a b (k _ _ g g1) (k _ _ d g2) (k _ _ m g3) (t1.at fun o e=>k _ o l e) (t2.at fun o e=>k _ o j e)
 | zs i T f a b hT g1 gT g2 t1 t2=>exact .zs i T f a b hT (k _ _ g g1) (k _ _ (BX hT) gT) (k _ _ d g2) (t1.at fun o e=>k _ o l e) (t2.at fun o e=>k _ o j e)
theorem ZSt.item(I:Inv X h σ H s)(z:ZSt s.heap n l1 l2 p i)(m:∀b∈j3 n,FpOk X h H b)(W:SqT X.K H l1 xs)(U:SqL X.K H l2 ys)(hx:xs[i]? = some x)(hy:ys[i]? = some y)(hp:p<s.heap.objs.size)(Z:∀u v k,RelV x u->RelV y v->IsPair k.heap s.heap.objs.size u v->Inv X h σ H k->ZSt k.heap n l1 l2 p (i+1)->k.toks=s.toks->R (some (.ref s.heap.objs.size)) k):wpAny (model X.prog X.w) A (pyNext (.ref (n+4))) R E s:=by
 obtain⟨d,r1,P,_⟩:=I.tuple W;obtain⟨Q,r2,Y,_⟩:=I.list U;obtain⟨u,O,S⟩:=r1.get hx;obtain⟨v,N,M⟩:=r2.get hy;have D:ZipApart (n+4) (n+2) (n+3) n (n+1) l1 l2:=om (fun z=>wu I W (m _ z)) (fun z=>a8d I U (m _ z));cases z with
 | z0 a b g1 g2 g3 t1 t2 =>
  refine a7q D g1 g2 g3 t1 t2 (show s.heap.IsTuple l1 d.toArray from P) Y.isList (x:=u) (y:=v) (by simpa using O) (by simpa using N) fun h' L a2 G F q j=>?_;refine Z u v _ S M q (I.turnedL (ch:=j3 n) (t':=s.toks) (fun b o hb e=>?_) m) (.zs 0 s.heap.objs.size false u v hp L q (j _ _ D.TIz D.TITO D.TIi1 D.TIi2 g2) G F) rfl;unfold j3 at hb;simp only[Ah,Ay,or_false,not_or] at hb;exact j b o hb.1 hb.2.2.1 hb.2.2.2.1 hb.2.2.2.2 e
 | zs i T f a b hT g1 gT g2 t1 t2 =>
  have c:s.heap.get? T=some { cls:=.type "tuple",data:=.seq #[a,b] }:=gT;have l:T≠n+4:=fun e=>by
   rw[e] at c;have g:=congrArg (fun o=>o.map Obj.cls) ((show s.heap.get? (n+4)=some _ from g1).symm.trans c);simp at g
  have C:T≠n:=fun e=>by
   obtain⟨o,t,r,_⟩:=t1;rw[e] at c;have g:=t.symm.trans c;cases g;simp at r
  have J:T≠n+1:=fun e=>by
   obtain⟨o,t,r,_⟩:=t2;rw[e] at c;have g:=t.symm.trans c;cases g;simp at r
  refine a7j D l g1 gT g2 t1 t2 (show s.heap.IsTuple l1 d.toArray from P) Y.isList (x:=u) (y:=v) (by simpa using O) (by simpa using N) fun h' L G F q j=>?_;refine Z u v _ S M q (I.turnedL (ch:=j3 n) (t':=s.toks) (fun b o hb e=>?_) m) (.zs (i+1) T true a b hT L (j _ _ l C J gT) (j _ _ D.TIz D.TIi1 D.TIi2 g2) G F) rfl;unfold j3 at hb;simp only[Ah,Ay,or_false,not_or] at hb;exact j b o hb.1 hb.2.2.2.1 hb.2.2.2.2 e
theorem ZSt.done(q:A.handled=none)(I:Inv X g σ H s)(z:ZSt s.heap n l1 l2 p i)(j:∀b∈j3 n,FpOk X g H b)(r:SqT X.K H l1 xs)(v:SqL X.K H l2 ys)(x:xs.length<=i)(t:∀k,Inv X g σ H k->R none k):wpAny (model X.prog X.w) A (pyNext (.ref (n+4))) R E s:=by
 obtain⟨d,u,l,_⟩:=I.tuple r;have m:=u.length;have D:ZipApart (n+4) (n+2) (n+3) n (n+1) l1 l2:=om (fun z=>wu I r (j _ z)) (fun z=>a8d I v (j _ z));have hn:d.toArray[i]? = none:=by rw[CB,Bu (by lia)]
 have kp:∀{h':Heap},(∀c o,c≠n+4->c≠n->s.heap.get? c=some o->h'.get? c=some o)->Inv X g σ H { s with heap:=h' }:=fun h=>I.turnedL (ch:=j3 n) (t':=s.toks) (fun b o hb e=>by
  unfold j3 at hb;simp only[Ah,Ay,or_false,not_or] at hb;exact h b o hb.1 hb.2.2.2.1 e) j
 cases z with
 | z0 a b g1 g2 g3 t1 t2=>exact a27 q D g1 g2 t1 (show s.heap.IsTuple l1 d.toArray from l) hn fun h' h=>t _ (kp h)
 | zs i T f a b hT g1 gT g2 t1 t2=>exact a8w q D g1 gT g2 t1 (show s.heap.IsTuple l1 d.toArray from l) hn fun h' h=>t _ (kp h)
section
variable{xs:List Str}{ys:List V} in
theorem a3i:∀{xs:List Str}{ys:List V},xs.length=ys.length->(xs.zip ys).map (·.1)=xs
 | [],_,_=>rfl
 | x::xs,[],h=>by cases h
 | x::xs,y::ys,h=>by rw[CW,Ar,a3i (by simpa using h)]
theorem abn(hn:n+4<p)(hb:b∈j3 n):b≠p:=by
 unfold j3 at hb;simp only[Ah,Ay,or_false] at hb;rcases hb with rfl|rfl|rfl|rfl|rfl
 . exact AA hn
 . exact AA (AN (Cc (show 2<=4 by decide) n) hn)
 . exact AA (AN (Cc (show 3<=4 by decide) n) hn)
 . exact AA (AN (B9 _ 4) hn)
 . exact AA (AN (Cc (show 1<=4 by decide) n) hn)
theorem a5b{xs:List Str}(hh:A.handled=none)(hp:H p=none)(O:SqT X.K H l1 (xs.map V.str))(N:SqL X.K H l2 ys)(G:xs.length=ys.length)(hn:xs.Nodup)(hz:xs.length<=1000)(h:n+4<p):
 ∀(k i:Nat) (s:Shared),xs.length - i=k->i<=xs.length->Inv X d σ (Hd H p (xs.zip ys) i) s->ZSt s.heap n l1 l2 p i->(∀b∈j3 n,FpOk X d (Hd H p (xs.zip ys) i) b)->
   (∀s',Inv X d σ (Hd H p (xs.zip ys) xs.length) s'->R (.ok (.ret .none)) s')->codeAny (model X.prog X.w) A (.builtin "dict.update.loop" ⟨[.ref p,.ref (n+4),.int i 0,.none],[]⟩) R s:=by
 have a:∀i,Same H (Hd H p (xs.zip ys) i):=fun i=>gc hp _;have Z:(xs.zip ys).length=xs.length:=by rw[DF];lia
 intro k;induction k with
 | zero =>
  intro i s Q hi I z t q;have e:i=xs.length:=by lia
  refine BI Ka.entry_loop ?_;rw[Bw Ka.plain_loop _];show wpAny _ A.in1 (pyNext (.ref (n+4)) >>= _) _ _ s;refine Aa (ZSt.done (A:=A.in1) hh I z t ((a i).seqT O) (qr (a i) N) (by rw[Ad];lia) fun g u=>?_);refine Aa (Ae (Ae (q _ ?_)));rw[<- e];exact u
 | succ k ih =>
  intro i s Q hi I z t q;have l:i<xs.length:=by lia
  obtain⟨x,L⟩:∃x,xs[i]? = some x:=⟨_,Ag l⟩
  obtain⟨y,J⟩:∃y,ys[i]? = some y:=⟨_,Ag (by lia)⟩
  have v:(xs.zip ys)[i]? = some (x,y):=by rw[El];exact⟨L,J⟩
  have f:(Hd H p (xs.zip ys) i) p=some (.dK (((xs.zip ys).take i).map kk)):=ft;refine BI Ka.entry_loop ?_;rw[Bw Ka.plain_loop _];show wpAny _ A.in1 (pyNext (.ref (n+4)) >>= _) _ _ s;obtain⟨_,S,_,_,E⟩:=uh I.hok f;have hps:p<s.heap.objs.size:=let ⟨o,_,_,ho,_⟩:=E;As ho;refine Aa (z.item I t ((a i).seqT O) (qr (a i) N) (x:=.str x) (y:=y) (by rw[Am,L];rfl) J hps fun u1 u2 g Y r2 j u z' U=>?_);dsimp only;refine Aa (AX ?_);refine Aa (Dr ?_);unfold Hr;refine Aa (CT (T := "tuple") ⟨_,j,rfl⟩ ?_);rw[if_pos (by decide)];refine Aa (Bl j rfl (Ae ?_));refine AX ?_;obtain⟨z0,hd,vs,rel,dd⟩:=uh u.hok f;have F:vs.length<=sizeLine:=by rw[<- rel.length];exact z0
  refine Ip (s:=g) (hsz:=F) (rd (k:=Sum.inr x) Y) dd fun M m r=>?_;have D:Mut ((Hd H p (xs.zip ys) i) p):=by rw[f];exact True.intro
  have he:∃q,M.get? p=some q:=let ⟨q,_,_,hq,_⟩:=m;⟨q,hq⟩;have C:(putK (((xs.zip ys).take i).map kk) (Sum.inr x) y).length<=sizeLine:=by
   have:=mu (((xs.zip ys).take i).map kk) (Sum.inr x) y;rw[Ad,AQ] at this;exact BK (l0 (by lia))
  have W:Inv X d σ (Hd H p (xs.zip ys) (i+1)) { g with heap:=M,toks:=g.toks+1 }:=by
   have:=qg (t':=g.toks+1) (ob:=.dK (putK (((xs.zip ys).take i).map kk) (Sum.inr x) y)) u D r he (tj C hd (rel.put (Sum.inr x) r2) m);rw[a71 (kv:=(x,y)) (by rw[a3i G];exact hn) v] at this;have e:upd (Hd H p (xs.zip ys) i) p (.dK (((xs.zip ys).take (i+1)).map kk))=Hd H p (xs.zip ys) (i+1):=by
    funext b;unfold Hd
    by_cases c:b=p
    . rw[c,ft,ft]
    . rw[fq c,fq c,fq c]
   rw[e] at this;exact this
  refine Ae ⟨BS Ka.plain_loop _,ih (i+1) _ (by lia) l W (z'.keep h fun c o nc e=>(r.2 c nc).trans e) (fun b hb=>?_) q⟩;have P:=t b hb;refine⟨?_,P.2⟩;have:=P.1;unfold Hd at this |-;rw[fq (abn h hb)] at this |-;exact this
end
inductive rDictZ(K:Ac)(vs:List V)(H:Hp)(Q:VK):Prop
 | mk (l1 l2:Addr)(xs:List Str)(ys:List V)(h0:vs=[.ref l1,.ref l2])(h1:SqT K H l1 (xs.map V.str))(h2:SqL K H l2 ys)(hxy:xs.length=ys.length)(hn:xs.Nodup)(hz:xs.length<=1000)(q:∀p,H p=none->Q (.ref p) (upd H p (.dK ((xs.zip ys).map kk)))):rDictZ K vs H Q
def a72(K:Ac)(ta:TA):TE:=fun σ H Q=>ta σ H fun vs H1=>rDictZ K vs H1 Q
theorem aaj(hc:X.calm=true)(S:Gl X "dict")(aa:X.mg "dict" = none)(hg:Gl X "zip")(hm:X.mg "zip" = none)(ha:PA X [a,b] ta)(hs:starEach [a,b] X.env=[(false,eval a X.env),(false,eval b X.env)])(G:starEach [b] X.env=[(false,eval b X.env)])(D:starEach [.Call (.Name "zip" p) [a,b] [] pos] X.env=[(false,eval (.Call (.Name "zip" p) [a,b] [] pos) X.env)]):
 PE X (.Call (.Name "dict" pd) [.Call (.Name "zip" p) [a,b] [] pos] [] ac) (a72 X.K ta):=by
 intro t s σ H Q I h;refine Call_ (nz I S aa boot_dict (BL ?_ (by rw[D];rfl) rfl));rw[D];show wpAny _ _ (spliced ((false,eval (.Call (.Name "zip" p) [a,b] [] pos) X.env)::[])) _ _ s;refine CQ ?_;refine Call_ (nz I hg hm boot_zip (BL (thn (ha pos t s σ H _ I h) fun us d ⟨vs,C,L,r1,N⟩=>?_) (by rw[hs,G]) (by rw[G];rfl)));obtain⟨l1,l2,xs,ys,e,N,q2,Y,hn,R,q⟩:=N;subst e;cases r1 with
 | cons r rr =>
  cases rr with
  | cons r' rr =>
   cases rr;cases r;cases r';obtain⟨x,v1,e1,_⟩:=L.tuple N;obtain⟨y,v2,e2,_⟩:=L.list q2;have T1:d.heap.IsTuple l1 x.toArray:=e1;have T2:d.heap.IsList l2 y.toArray:=e2.isList;refine callType_new F.called_zip (by decide) (Jm _ _) (Jy _ _) (fun obj=>Ih obj _ _) Jz (a7y l1 l2 x.toArray y.toArray) ⟨T1,T2,?_⟩;have u:∀(m:Heap) (o:Obj),(m.push o).objs.size=m.objs.size+1:=fun m o=>Bj ..;have hk:∀b o,d.heap.get? b=some o->∀g i j k l,(((((d.heap.push g).push i).push j).push k).push l).get? b=some o:=fun b o e g i j k l=>Ab _ (Ab _ (Ab _ (Ab _ (Ab _ e))));have at0:∀g i j k l:Obj,g.isFreed=false->(((((d.heap.push g).push i).push j).push k).push l).get? d.heap.objs.size=some g:=fun g i j k l f=>Ab _ (Ab _ (Ab _ (Ab _ (An _ f))));have W:∀g i j k l:Obj,i.isFreed=false->(((((d.heap.push g).push i).push j).push k).push l).get? (d.heap.objs.size+1)=some i:=fun g i j k l f=>by rw[<- u d.heap g];exact Ab _ (Ab _ (Ab _ (An _ f)))
   have at2:∀g i j k l:Obj,j.isFreed=false->(((((d.heap.push g).push i).push j).push k).push l).get? (d.heap.objs.size+2)=some j:=fun g i j k l f=>by
    have e:d.heap.objs.size+2=((d.heap.push g).push i).objs.size:=by rw[u,u]
    rw[e];exact Ab _ (Ab _ (An _ f))
   have U:∀g i j k l:Obj,k.isFreed=false->(((((d.heap.push g).push i).push j).push k).push l).get? (d.heap.objs.size+3)=some k:=fun g i j k l f=>by
    have e:d.heap.objs.size+3=(((d.heap.push g).push i).push j).objs.size:=by rw[u,u,u]
    rw[e];exact Ab _ (An _ f)
   have ab:∀g i j k l:Obj,l.isFreed=false->(((((d.heap.push g).push i).push j).push k).push l).get? (d.heap.objs.size+4)=some l:=fun g i j k l f=>by
    have e:d.heap.objs.size+4=((((d.heap.push g).push i).push j).push k).objs.size:=by rw[u,u,u,u]
    rw[e];exact An _ f
   have g1:=ab { cls:=.type "tuple_iterator",data:=.fields #[.ref l1,.int 0 0] } { cls:=.type "list_iterator",data:=.fields #[.ref l2,.int 0 0] } { cls:=.type "tuple",data:=.seq #[.ref d.heap.objs.size,.ref (d.heap.objs.size+1)] } { cls:=.type "tuple",data:=.seq #[.none,.none] } { cls:=.type "zip",data:=.fields #[.none,.bool false,.bool false,.ref (d.heap.objs.size+2),.ref (d.heap.objs.size+3)] } rfl;have g2:=at2 { cls:=.type "tuple_iterator",data:=.fields #[.ref l1,.int 0 0] } { cls:=.type "list_iterator",data:=.fields #[.ref l2,.int 0 0] } { cls:=.type "tuple",data:=.seq #[.ref d.heap.objs.size,.ref (d.heap.objs.size+1)] } { cls:=.type "tuple",data:=.seq #[.none,.none] } { cls:=.type "zip",data:=.fields #[.none,.bool false,.bool false,.ref (d.heap.objs.size+2),.ref (d.heap.objs.size+3)] } rfl;have g3:=U { cls:=.type "tuple_iterator",data:=.fields #[.ref l1,.int 0 0] } { cls:=.type "list_iterator",data:=.fields #[.ref l2,.int 0 0] } { cls:=.type "tuple",data:=.seq #[.ref d.heap.objs.size,.ref (d.heap.objs.size+1)] } { cls:=.type "tuple",data:=.seq #[.none,.none] } { cls:=.type "zip",data:=.fields #[.none,.bool false,.bool false,.ref (d.heap.objs.size+2),.ref (d.heap.objs.size+3)] } rfl;have g4:=at0 { cls:=.type "tuple_iterator",data:=.fields #[.ref l1,.int 0 0] } { cls:=.type "list_iterator",data:=.fields #[.ref l2,.int 0 0] } { cls:=.type "tuple",data:=.seq #[.ref d.heap.objs.size,.ref (d.heap.objs.size+1)] } { cls:=.type "tuple",data:=.seq #[.none,.none] } { cls:=.type "zip",data:=.fields #[.none,.bool false,.bool false,.ref (d.heap.objs.size+2),.ref (d.heap.objs.size+3)] } rfl;have g5:=W { cls:=.type "tuple_iterator",data:=.fields #[.ref l1,.int 0 0] } { cls:=.type "list_iterator",data:=.fields #[.ref l2,.int 0 0] } { cls:=.type "tuple",data:=.seq #[.ref d.heap.objs.size,.ref (d.heap.objs.size+1)] } { cls:=.type "tuple",data:=.seq #[.none,.none] } { cls:=.type "zip",data:=.fields #[.none,.bool false,.bool false,.ref (d.heap.objs.size+2),.ref (d.heap.objs.size+3)] } rfl;have kp:=fun b o e=>hk b o e { cls:=.type "tuple_iterator",data:=.fields #[.ref l1,.int 0 0] } { cls:=.type "list_iterator",data:=.fields #[.ref l2,.int 0 0] } { cls:=.type "tuple",data:=.seq #[.ref d.heap.objs.size,.ref (d.heap.objs.size+1)] } { cls:=.type "tuple",data:=.seq #[.none,.none] } { cls:=.type "zip",data:=.fields #[.none,.bool false,.bool false,.ref (d.heap.objs.size+2),.ref (d.heap.objs.size+3)] };refine⟨⟨_,g1,rfl⟩,?_⟩;generalize ((((d.heap.push { cls:=.type "tuple_iterator",data:=.fields #[.ref l1,.int 0 0] }).push { cls:=.type "list_iterator",data:=.fields #[.ref l2,.int 0 0] }).push { cls:=.type "tuple",data:=.seq #[.ref d.heap.objs.size,.ref (d.heap.objs.size+1)] }).push { cls:=.type "tuple",data:=.seq #[.none,.none] }).push { cls:=.type "zip",data:=.fields #[.none,.bool false,.bool false,.ref (d.heap.objs.size+2),.ref (d.heap.objs.size+3)] }=hz at g1 g2 g3 g4 g5 kp |-;refine DM ?_;have Z:Inv X t σ C { d with heap:=hz }:=L.kept (t':=d.toks) fun b o e=>kp b o e;have E:∀b∈j3 d.heap.objs.size,d.heap.objs.size<=b:=fun b hb=>by
    unfold j3 at hb;simp only[Ah,Ay,or_false] at hb;rcases hb with rfl|rfl|rfl|rfl|rfl
    . exact B9 _ 4
    . exact B9 _ 2
    . exact B9 _ 3
    . exact Ak _
    . exact B9 _ 1
   have M:∀b∈j3 d.heap.objs.size,FpOk X t C b:=fun b hb=>L.fpOk (H':=C) (E b hb) (L.hok.fresh (E b hb));have v:d.heap.objs.size+4<hz.objs.size:=As g1;have Z0:∀p,ZSt hz d.heap.objs.size l1 l2 p 0:=fun p=>.z0 _ _ g1 g2 g3 ⟨_,g4,rfl,rfl⟩ ⟨_,g5,rfl,rfl⟩;generalize d.heap.objs.size=n at g1 M v Z0 |-;refine callType_codes (Q₁:=fun obj s₁=>obj=.ref hz.objs.size/\s₁={ d with heap:=hz.push { cls:=.type "dict",data:=.dict #[] } }) Jk (Ig _) Jc (Jl _ ⟨rfl,rfl⟩) ?_;rintro obj s₁ ⟨rfl,rfl⟩;have fr:C hz.objs.size=none:=Z.hok.fresh (Ak _);have O:Inv X t σ (upd C hz.objs.size (.dK [])) { d with heap:=hz.push { cls:=.type "dict",data:=.dict #[] } }:=Z.laid (t':=d.toks) (fun b o e=>Ab _ e) (Ak _) (yg _ Z.big);have w:(hz.push { cls:=.type "dict",data:=.dict #[] }).get? hz.objs.size=some { cls:=.type "dict",data:=.dict #[] }:=An _ rfl;have z:=Ab { cls:=.type "dict",data:=.dict #[] } g1;refine⟨⟨_,w,rfl⟩,IP _ _,?_⟩;unfold Builtin.«dict.__init__»;refine Aa ?_;unfold Gp;refine Aa (EV ⟨_,w,rfl⟩ ?_);show wpAny _ _ (pure (hz.objs.size,[Value.ref (n+4)])) _ _ _;refine Ae ?_;show wpAny _ _ (Dy "dict.__init__" hz.objs.size (.ref (n+4)) [] .none) _ _ _;unfold Dy;refine Aa (CT (T := "zip") ⟨_,z,rfl⟩ ?_);rw[if_pos (by decide)];refine Aa (Kz.attr (A:=X.A.in1.in1) (show X.A.in1.in1.handled=none from O.ok.hd hc) z fun P t2 k2 z2=>?_);rw[if_pos (show (none:Option Value).isNone=true from rfl)];refine Aa (Cz ?_);have Z2:ZSt P n l1 l2 hz.objs.size 0:=(Z0 hz.objs.size).keep v fun c o _ e=>k2 _ _ (Ab _ e);have J2:Inv X t σ (upd C hz.objs.size (.dK [])) { d with heap:=P,toks:=t2 }:=O.kept (t':=t2) fun b o e=>k2 b o e;have J:=k2 _ _ z;refine Aa (Gu (s:={ d with heap:=P,toks:=t2 }) J ?_);refine Ae ⟨BS Ka.plain_loop _,a5b (n:=n) (show X.A.in1.handled=none from O.ok.hd hc) fr N q2 Y hn R v xs.length 0 _ rfl (AH _) J2 Z2 (fun b hb=>?_) fun s' I'=>?_⟩
   . have f0:=M b hb;refine⟨?_,f0.2⟩;show (upd C hz.objs.size (.dK [])) b=none;rw[fq (abn v hb)];exact f0.1
   . refine⟨rfl,.ref hz.objs.size,_,I',rfl,?_⟩;have:=q hz.objs.size fr;unfold Hd;rw[Bg (by rw[DF];lia)];exact this
theorem aag{K:Ac}(hK:X.K=K)(hc:X.calm=true)(f:Gl X "dict")(e:X.mg "dict" = none)(i:Gl X "zip")(hm:X.mg "zip" = none)(ha:QA X [a,b] h)(hs:starEach [a,b] X.env=[(false,eval a X.env),(false,eval b X.env)]:=by rfl)(c:starEach [b] X.env=[(false,eval b X.env)]:=by rfl)(d:starEach [.Call (.Name "zip" p) [a,b] [] pos] X.env=[(false,eval (.Call (.Name "zip" p) [a,b] [] pos) X.env)]:=by rfl):
 QE X (.Call (.Name "dict" j) [.Call (.Name "zip" p) [a,b] [] pos] [] g) (a72 K h):=by subst hK;exact⟨aaj hc f e i hm ha.run hs c d⟩
end L2
namespace K56
open PySem PySem.Spec L2 Mir
abbrev a4d:Stmt:=kh (top 30) 8
theorem a4b:∀{ps ws:List Str},(valV ((ps.zip (ws.map fun w=>V.int (nilF F w))).map kk) (Sum.inr y)).getD (.int 0)=.int (qf ps ws F y)
 | [],_=>rfl
 | _::_,[]=>rfl
 | p::ps,w::ws=>by
  have a:=a4b (F:=F) (y:=y) (ps:=ps) (ws:=ws);unfold qf at a |-;rw[Ar,CW,Ar,CW,Cj];by_cases e:y=p
  . subst e;rw[show (y == y)=true from beq_self_eq_true y];show (valV ((Sum.inr y,V.int (nilF F w))::_) (Sum.inr y)).getD (.int 0)=_;rw[md rfl];rfl
  . rw[show (y == p)=false from beq_eq_false_iff_ne.mpr e];show (valV ((Sum.inr p,V.int (nilF F w))::_) (Sum.inr y)).getD (.int 0)=_;rw[m7 (fun z=>e (DH z).symm)];exact a
theorem a6a:(lj ((ps.zip (ws.map fun w=>V.int (nilF F w))).map kk) zs).map kk=vK zs (qf ps ws F):=by
 unfold lj vK;rw[Bd];refine BE fun z _=>?_;show (Sum.inr z,(valV _ (Sum.inr z)).getD (.int 0))=_;rw[a4b]
theorem nr:∀{ys:List α}{ws:List β},Paired (fun y w=>y=g w) ys ws->ys=ws.map g
 | _,_,.nil=>rfl
 | _,_,.cons h r=>by rw[h,nr r];rfl
inductive spEnter(K:Ac)(CM CF:Addr)(vs:List V)(H:Hp)(Q:VK)(E:XK):Prop
 | mk (X:Hp)(m dm pd fl cd t v pr':Addr)(fm:List (Str×V))(g:Int)(b:Bool)(pcs:List Prc)(a:Fr)(frs:List Fr)(x c:Str)(ws xs:List Str)(pkv:List (Key×V))(pc:Prc)(ic:Nat)(es:List Deed)(h0:vs=[.ref m,.ref a.p,.ref t])(hm:H m=some (.ins CM dm fm)/\m≠a.p)(hM:MFs fm pd fl cd g b)(hS:StAt K CF X pcs H fl (a::frs))(ht:X t=some (.tup [.str "call",.str x,.str c,.ref v]))(hv:X v=some (.tup (ws.map V.str)))(hws:∀w∈ws,w∈a.ys++[("nil" : Str)])(hpd:X pd=some (.dK pkv))(hc:valV pkv (Sum.inr c)=some (.ref pr'))(hpc:PrcAt K X (B 5) pr' pc)(hok:PrcOk (B 5) xs pc)(hl:ws.length=pc.ps.length)(hn:pc.ps.Nodup)(hes:subL a.pc.body a.f.pp=some es)(hk:a.f.k<es.length)(hic:pcs[ic]? = some pc)(hlen:frs.length<=900)(q:∀H' (n a':Fr),StAt K CF X pcs H' fl (n::a'::frs)->n.f=⟨ic,[],0,qf pc.ps ws a.f.F,x⟩->n.pc=pc->a'.f=ly pcs a.f (a.f.pp,a.f.k+1)->a'.p=a.p->a'.nd=a.nd->a'.ys=a.ys->a'.pc=a.pc->H n.p=none->H n.nd=none->KpS fl (a::frs) H H'->H' m=some (.ins CM dm fm)->Q .non H'):spEnter K CM CF vs H Q E
theorem a92(hn:5<=n)(C:Con K mg w)(T:TxM K mg CM fI)(U:TxF K mg l fJ)(F:Fun K "enter" "Machine.enter" a4d f fd)(GN:FnOk P w K mg base CX0 2 gN dN ["self","word"] (uu l))(cN:MCal K l "number" gN dN ["self","word"])(GM:FnOk P w K mg base CX0 5 gM dM ["self","path"] (sw K l))(cM:MCal K l "move" gM dM ["self","path"])(GH:FnOk P w K mg base CX0 1 gH dH ["path"] (spBehind K))(cH:Cal K mg "behind_deed" gH dH ["path"])(GI:FnOk P w K mg base CX0 n fJ dI ["self","procedure","path","numbers","receiver"] (spFInit K l (B 5)))(bI:Binds K dI ["self","procedure","path","numbers","receiver"] []):FnOk P w K mg base CX0 (n+1+1) f fd ["self","frame","deed"] (spEnter K CM l):=by
 refine F.okA ["self","frame","deed","called","numbers"] fun aZ A outer s0 H vs Q E hr h nd=>?_;obtain⟨X,m,dm,pd,fl,cd,t,v,r,fm,g,b,pcs,a,frs,x,c,ws,xs,aY,pc,ic,es,rfl,⟨hm,aG⟩,hM,M,ht,hv,ax,hpd,hc,af,hok,hl,az,aF,hk,aC,aW,q⟩:=h;have ap:=kx hr;have aT:=hr.mono (j:=1) (by lia);have aU:=hr.mono (j:=2) (by lia);have ay:=hr.mono (j:=5) (by lia);refine⟨_,fw (gp 3 nd (ml ap (i4 (K:=K) rfl (qv 0)) (gz K (qv 2) fu) (fun _ _=>rfl)))
  (fw (ub ["word","frame"] [1] (i:=4) nd rfl (Or.inl rfl) (a3s (K:=K) rfl (gz K (qv 2) fu)) (fun _ _ _ _=>ni) (fun _ _ _ _=>(jm (qv 1) U.cl cN.meth GN aU cN.bind .nil im (fy (qv 0) ad))))
  (fw (ik (jm (qv 1) U.cl cM.meth GM ay cM.bind .nil im (gw (gk GH aT cH (jf (i4 (K:=K) rfl (qv 1)) ad)) ad)))
  (fz (ik (ke (K:=K) rfl AM BC BD kg (i4 (K:=K) rfl (qv 0)) (gw (vr U.mkC GI hr rfl U.mgC bI .nil im (fy (qv 3) (oi (gs ad) (gw (aag (K:=K) rfl rfl rfl C.dict rfl C.zip (gj (gz K (qv 3) fu) (fy (qv 4) ad))) (gj (gz K (qv 2) fu) ad))))) ad)))))),?_⟩
 have Sa:=M.fr a Af;obtain⟨aJ,t1,t2,f1,p1,f2,p2,an,e⟩:=id af;have gd:=DGet.k (k:=Sum.inr c) (M.sX _ _ hpd);rw[hc] at gd;refine g8 (a:=tAsg _ _) fun D1 ai _ _=>?_;refine⟨_,rfl,m,CM,dm,fm,_,rfl,hm,T.cl,T.nP,hM.procedures,_,rfl,t,_,2,_,rfl,rfl,SqT.of (M.sX _ _ ht),rfl,pd,_,rfl,gd,?_⟩;refine ai [some (.ref m),some (.ref a.p),some (.ref t),some (.ref r),none] _ ?_;clear ai;refine g8 (a:=tAsg _ _) fun D2 Z _ _=>?_;have aM:ws.length<=1000:=by have:=hok.ps.1;lia
 refine⟨_,rfl,t,_,3,_,rfl,rfl,SqT.of (M.sX _ _ ht),rfl,v,rfl,⟨_,SqT.of (M.sX _ _ hv)⟩,?_⟩;refine pf (ws.map V.str) ws (fun D G y (w:Str)=>y=V.int (nilF a.f.F w)) id a2u (SqT.of (M.sX _ _ hv)) (by rw[Ad];exact aM) (by rw[Ad]) (fun D G1 G2 y w z _=>z) (fun D hD j y w hy hw H2 e2 Z Q' q'=>?_) (fun D H2 ys hD e2 kD hpt=>?_)
 . have aL:y=.str w:=by rw[Am,hw] at hy;exact (A0 hy).symm
   subst aL;have S2:=M.same e2;have d:=S2.fr a Af;exact⟨_,rfl,a.p,a.dx,a.fs,rfl,d.hp,d.ff.meth _ (by simp),_,rfl,a.p,a.dx,a.pr,a.pt,a.nd,a.fs,a.f.rc,w,rfl,d.hp,d.ff,l9 d.hnd (a61 (ax w (AE hw))) (q' _ _ (Same.refl _) rfl)⟩
 have aQ:=nr (by rw[Do] at hpt;exact hpt);subst aQ;have S2:=M.same e2;have d:=S2.fr a Af;refine Z [some (.ref m),some (.ref a.p),some (.ref t),some (.ref r),some (.ref D)] _ ?_;clear Z;refine g8 (a:=mn _) fun D3 aj _ _=>?_;obtain⟨u1,u3,u4,hpr⟩:=d.hpr;obtain⟨_,_,_,_,_,_,_,_,a0,_⟩:=d.deed;refine⟨_,rfl,a.p,a.dx,a.fs,rfl,d.hp,d.ff.meth _ (by simp),?_⟩;refine⟨_,rfl,a.p,l,a.dx,a.fs,_,rfl,d.hp,U.cl,U.nA,d.ff.path,a.pt,flat a.f.pp,(a.f.k:Int),rfl,d.hpt,by rw[m4];lia,fun q0 H3 e3 aO=>?_⟩;have S3:=S2.same e3;have u:=S3.fr a Af;obtain⟨eo,S,_⟩:=n0 u.L aF (show a.f.k+1<=es.length by lia);have au:=zf u.L S;have aN:=S.same S3.sX;refine⟨a.p,a.dx,a.pr,a.pt,a.nd,a.bd,q0,a.fs,a.f.rc,_,u1,_,u3,u4,a.f.pp,a.f.k+1,_,eo,rfl,u.hp,u.ff,(by have:=u.lf;lia),S3.sX _ _ hpr,aO,aN,(by lia),fun q1 fs' H4 e4 hq1 aS aR _=>?_⟩;have aw:=S3.same e4;have S4:=aw.move hq1 aS aR au;have Y:(upd H4 a.p (.ins l a.dx fs')) m=some (.ins CM dm fm):=by rw[fq aG];exact ((e2.trans e3).trans e4) _ _ hm
 have ae:(upd H4 a.p (.ins l a.dx fs')) D=some (.lst (ws.map fun w=>V.int (nilF a.f.F w))):=by rw[fq (fun z=>by rw[z,d.hp] at kD;cases kD)];exact (e3.trans e4) _ _ kD
 have al:KpS fl (a::frs) H (upd H4 a.p (.ins l a.dx fs')):=fun b o z n1 n2 n3=>by rw[fq (fun y=>n2 (by rw[y];exact Af))];exact ((e2.trans e3).trans e4) _ _ z
 have W:∀c,(upd H4 a.p (.ins l a.dx fs')) c=none->H c=none:=fun c z=>by
  by_cases y:c=a.p
  . rw[y,ft] at z;cases z
  . rw[fq y] at z;exact ((e2.trans e3).trans e4).free z
 generalize upd H4 a.p (.ins l a.dx fs')=H5 at S4 ae al W Y |-;refine aj [some (.ref m),some (.ref a.p),some (.ref t),some (.ref r),some (.ref D)] _ ?_;clear aj;refine⟨_,rfl,m,CM,dm,fm,_,rfl,Y,T.cl,T.nF,hM.frames,.inl ⟨rfl,_,SqL.of S4.hfl⟩,?_⟩;refine⟨_,rfl,(show 1<=sizeLine by decide),fun z0 aH=>?_⟩;obtain⟨H6,z1,J,k6⟩:=gr aH (.tup [V.int 0]);rw[z1];refine⟨_,rfl,r,_,1,_,rfl,rfl,SqT.of (J _ _ (S4.sX _ _ e.tup)),rfl,_,rfl,aJ,D,pc.ps,_,rfl,SqT.of (J _ _ (S4.sX _ _ e.pt)),SqL.of (J _ _ ae),(by rw[Ad,hl]),az,(by have:=hok.ps.1;lia),fun dz aE=>?_⟩;obtain⟨H7,z2,N,k7⟩:=gr aE (.dK ((pc.ps.zip (ws.map fun w=>V.int (nilF a.f.F w))).map kk));rw[z2];refine⟨_,rfl,t,_,1,_,rfl,rfl,SqT.of ((J.trans N) _ _ (S4.sX _ _ ht)),rfl,?_⟩;intro p dx I ag aX;have O:=S4.same (J.trans N);have s8:Same H7 (upd (upd H7 dx (.own p)) p (.ins l dx [])):=fun b o z=>by rw[fq (g6 z I),fq (g6 z ag)];exact z
 obtain⟨aA,R,_⟩:=n0 (p:=[]) (k:=0) e.body rfl (AH _);have ah:=zf e.body R;refine .mk H7 p dx r z0 dz an x pc xs _ _ _ _ _ _ [] 0 ([],0) aA rfl s8 I ft (af.same O.sX) hok (O.sX _ _ e.tup) (SqT.of (N _ _ k6)) (R.same O.sX) (by decide) k7 fun ar aa aB zs H8 e8 aI av aD aK ao ak zn aV zm=>⟨rfl,?_⟩
 rw[a6a] at ak;have S8:=O.same e8;have aP:p∉(({ a with pt:=q1,fs:=fs',f:={ a.f with pp:=(dueR a.pc.body (a.f.pp).reverse (a.f.k+1)).1,k:=(dueR a.pc.body (a.f.pp).reverse (a.f.k+1)).2 } }:Fr)::frs).map (·.p):=fun z=>by
  obtain⟨c',ab,e'⟩:=Az.mp z;have:=(O.fr c' ab).hp;rw[e',I] at this;cases this
 have s:H7 aa=none:=s8.free ao;have aq:aa∉(({ a with pt:=q1,fs:=fs',f:={ a.f with pp:=(dueR a.pc.body (a.f.pp).reverse (a.f.k+1)).1,k:=(dueR a.pc.body (a.f.pp).reverse (a.f.k+1)).2 } }:Fr)::frs).map (·.nd):=fun z=>by
  obtain⟨c',ab,e'⟩:=Az.mp z;have:=(O.fr c' ab).hnd;rw[e',s] at this;cases this
 have zl:zs.length<=20:=Ax (AW zn fun y hy=>hok.names y ((zm y).mp hy).2 ((zm y).mp hy).1) hok.len;have FN:FrAt K l X pcs H8 ⟨p,dx,r,ar,aa,an,aB,zs,pc,⟨ic,[],0,qf pc.ps ws a.f.F,x⟩⟩:=⟨O.sX.free I,O.sX.free s,aI,av,aD,aK,ak,⟨_,_,_,e.tup⟩,e.body,ah,zl,zm,zn,aC⟩
 refine⟨fl,_,_,rfl,rfl,S8.hfl,j6 (by rw[Eg,Ad,AC];lia),?_⟩;have am:=((J.trans N).trans e8) _ _ Y;have ac:rk pcs a.f=a.pc.body:=Sa.body.1;refine q _ _ _ (S8.push FN aP aq) rfl rfl ?_ rfl rfl rfl rfl (W _ ((J.trans N).free I)) (W _ ((J.trans N).free s)) (fun b o z n1 n2 n3=>by rw[fq n1];exact ((J.trans N).trans e8) _ _ (al b o z n1 n2 n3)) ?_
 . unfold ly;rw[ac]
 . rw[fq (fun z=>by have y:=am;rw[z,S8.hfl] at y;cases y)];exact am
def CellAt(K:Ac)(H:Hp)(kv:Key×V)(c:Int×Int×Int):Prop:=kv.1=Sum.inl c.1/\∃r,kv.2=.ref r/\SqT K H r [.int c.2.1,.int c.2.2]
def zz(K:Ac)(H:Hp)(cd:Addr)(cs:List (Int×Int×Int)):Prop:=∃kvs,H cd=some (.dK kvs)/\Paired (CellAt K H) kvs cs
theorem qx(h:CellAt K H kv c)(i:Int):(kv.1=Sum.inl i)↔c.1=i:=by
 rw[h.1];exact⟨fun z=>Ed z,fun z=>by rw[z]⟩
theorem CellAt.keep(h:CellAt K H kv c)(e:∀b o,H b=some o->(∀C d f,o≠.ins C d f)->(∀kvs,o≠.dK kvs)->(∀l,o≠.lst l)->H' b=some o):CellAt K H' kv c:=by
 obtain⟨j,r,i,g⟩:=h;exact⟨j,r,i,ou g fun o a b c d=>e _ _ a b c d⟩
theorem a73(i:Int)(h:Paired (CellAt K H) kvs cs):(kvs.any fun kv=>decide (kv.1=Sum.inl i))=cs.any fun c=>decide (c.1=i):=by
 induction h with
 | nil=>rfl
 | cons h1 _ ih =>
  rw[Cy,Cy,ih]
  congr 1
  exact decide_eq_decide.mpr (qx h1 i)
theorem lg(i:Int)(h:Paired (CellAt K H) kvs cs):(∀v,getC cs i=some v->∃r,valV kvs (Sum.inl i)=some (.ref r)/\SqT K H r [.int v.1,.int v.2])/\(getC cs i=none->valV kvs (Sum.inl i)=none):=by
 induction h with
 | nil=>exact⟨fun v z=>(by cases z),fun _=>rfl⟩
 | cons h1 _ ih =>
  rename_i kv c _ _ _;unfold getC at ih |-;rw[BJ];by_cases z:c.1=i
  . rw[decide_eq_true z];obtain⟨_,r,b,d⟩:=id h1;refine⟨fun v a=>⟨r,?_,?_⟩,fun a=>by cases a⟩
    . rw[md ((qx h1 i).mpr z),b]
    . cases a;exact d
  . rw[decide_eq_false z,m7 (fun y=>z ((qx h1 i).mp y))];exact ih
theorem uy(h:Paired (CellAt K H) kvs cs)(a:SqT K H r [.int v.1,.int v.2]):Paired (CellAt K H) (putK kvs (Sum.inl i) (.ref r)) (putC cs i v):=by
 unfold putK putC;rw[a73 i h];split
 . rename_i hz;clear hz;induction h with
   | nil=>exact .nil
   | cons h1 _ ih =>
    rename_i kv c _ _ _;rw[Ar,Ar];refine .cons ?_ ih;by_cases z:c.1=i
    . rw[if_pos z,if_pos ((qx h1 i).mpr z)];exact⟨h1.1,r,rfl,a⟩
    . rw[if_neg z,if_neg (fun y=>z ((qx h1 i).mp y))];exact h1
 . exact Paired.snocP h ⟨rfl,r,rfl,a⟩
theorem a4o(h:Paired (CellAt K H) kvs cs):Paired (CellAt K H) (rq kvs (Sum.inl i)) (u6 cs i):=by
 unfold rq u6;induction h with
 | nil=>exact .nil
 | cons h1 _ ih =>
  rename_i kv c _ _ _;by_cases z:c.1=i
  . rw[ED (by simpa using (qx h1 i).mpr z),ED (by simpa using z)];exact ih
  . rw[EC (by simpa using fun y=>z ((qx h1 i).mp y)),EC (by simpa using z)];exact .cons h1 ih
def KpM(L:List Addr)(H H':Hp):Prop:=∀b o,H b=some o->b∉L->H' b=some o
theorem KpM.trans(a:KpM L H e)(b:KpM L e d):KpM L H d:=fun c o h n=>b _ _ (a _ _ h n) n
theorem KpM.of(e:Same H a):KpM L H a:=fun c o h _=>e _ _ h
theorem KpM.put(h:x∈L):KpM L H (upd H x o):=fun c u z n=>by rw[fq (fun y=>n (by rw[y];exact h))];exact z
structure MAt(K:Ac)(CM CF:Addr)(X:Hp)(pcs:List Prc)(m dm pd fl cd:Addr)(H:Hp)(fm:List (Str×V))(s:PM)(frs:List Fr):Prop where
 S:StAt K CF X pcs H fl frs
 ef:frs.map (·.f)=s.frs
 ch:Chain frs
 xm:X m=none
 xc:X cd=none
 hm:H m=some (.ins CM dm fm)
 mf:MFs fm pd fl cd s.g s.fallen
 lm:fm.length<=5
 C:zz K H cd s.cs
 nm:m∉frs.map (·.p)
 nc:cd∉frs.map (·.nd)
 ne:frs≠[]
theorem MAt.keep{frs:List Fr}(A:MAt K v u X pcs m q j a cd H r s frs)(sX:Same X H')(e:∀b o,H b=some o->(b∈muM m cd a frs\/((∀C d f,o≠.ins C d f)/\(∀kvs,o≠.dK kvs)/\∀l,o≠.lst l))->H' b=some o):MAt K v u X pcs m q j a cd H' r s frs:=by
 obtain⟨kvs,n,k⟩:=A.C;refine⟨⟨sX,A.S.xf,e _ _ A.S.hfl (.inl (by simp[muM])),fun c hc=>(A.S.fr c hc).keep fun b o z w=>e _ _ z ?_,A.S.np,A.S.nn⟩,A.ef,A.ch,A.xm,A.xc,e _ _ A.hm (.inl (by simp[muM])),A.mf,A.lm,⟨kvs,e _ _ n (.inl (by simp[muM])),Paired.mapP k fun _ _ z=>z.keep fun b o z i y t=>e _ _ z (.inr ⟨i,y,t⟩)⟩,A.nm,A.nc,A.ne⟩;have g:∀{x:Addr},x=c.p\/x=c.nd->x∈muM m cd a frs:=fun h=>by
  refine Al _ (Al _ (Al _ (Bt.mpr ⟨c,hc,?_⟩)));rcases h with rfl|rfl<;>simp
 rcases w with w|w|w
 . exact .inl (g (.inl w))
 . exact .inl (g (.inr w))
 . exact .inr w
theorem MAt.same{frs:List Fr}(A:MAt K f g X pcs m b a d cd H c s frs)(e:Same H H'):MAt K f g X pcs m b a d cd H' c s frs:=A.keep (A.S.sX.trans e) fun _ _ h _=>e _ _ h
theorem se{s:PM}(A:zz K H cd s.cs)(c:x≠cd)(h:∀u,H x=some u->(∃C d f,u=.ins C d f)\/(∃kvs,u=.dK kvs)\/∃l,u=.lst l):zz K (upd H x o) cd s.cs:=by
 obtain⟨kvs,g,e⟩:=A;refine⟨kvs,by rw[fq (AL c)];exact g,Paired.mapP e fun _ _ z=>z.keep fun b u z a j i=>?_⟩;rw[fq (fun y=>?_)];exact z;rw[y] at z;rcases h u z with⟨C,d,f,w⟩|⟨k,w⟩|⟨l,w⟩
 . exact a _ _ _ w
 . exact j _ w
 . exact i _ w
theorem MAt.nums(A:MAt K k j X pcs m g e i cd H h s (a::r)):MAt K k j X pcs m g e i cd (upd H a.nd (.dK (vK a.ys d))) h { s with frs:={ a.f with F:=d }::r.map (·.f) } ({ a with f:={ a.f with F:=d } }::r):=by
 have c:=A.S.fr a Af;refine⟨A.S.put,rfl,?_,A.xm,A.xc,by rw[fq (fun z=>by have y:=A.hm;rw[z,c.hnd] at y;cases y)];exact A.hm,A.mf,A.lm,se A.C (fun z=>A.nc (by rw[<- z];exact Af)) (fun u z=>.inr (.inl (by rw[c.hnd] at z;exact⟨_,(A0 z).symm⟩))),A.nm,A.nc,by simp⟩;have ch:=A.ch;cases r with
 | nil=>trivial
 | cons b r=>exact⟨ch.1,ch.2⟩
theorem MAt.cells{frs:List Fr}(A:MAt K n k X pcs m h e j cd H i s frs)(hp:Paired (CellAt K H) a d):MAt K n k X pcs m h e j cd (upd H cd (.dK a)) i { s with cs:=d } frs:=by
 obtain⟨kvs,f,q⟩:=A.C;have ne:∀{b:Addr} {o:HO},H b=some o->(∀l,o≠.dK l)->b≠cd:=fun hb g z=>by rw[z,f] at hb;exact g _ (A0 hb).symm
 refine⟨⟨fun b o z=>by rw[fq (g6 z A.xc)];exact A.S.sX _ _ z,A.S.xf,by rw[fq (ne A.S.hfl fun _ z=>by cases z)];exact A.S.hfl,fun c hc=>(A.S.fr c hc).keep fun b o z w=>?_,A.S.np,A.S.nn⟩,A.ef,A.ch,A.xm,A.xc,by rw[fq (ne A.hm fun _ z=>by cases z)];exact A.hm,A.mf,A.lm,⟨a,ft,Paired.mapP hp fun _ _ z=>z.keep fun b o z _ p _=>by rw[fq (ne z p)];exact z⟩,A.nm,A.nc,A.ne⟩;rw[fq];exact z;rcases w with w|w|w
 . exact ne z fun l y=>by rw[w,(A.S.fr c hc).hp,y] at z;cases z
 . exact fun y=>A.nc (by rw[<- y,w];exact Br hc)
 . exact ne z w.2.1
theorem MAt.own{frs:List Fr}(A:MAt K l q X pcs m j h k cd H p s frs)(t:MFs a h k cd g' r)(hl:a.length=p.length):MAt K l q X pcs m j h k cd (upd H m (.ins l j a)) a { s with g:=g',fallen:=r } frs:=by
 have ne:∀{b:Addr} {o:HO},H b=some o->(∀C d f,o≠.ins C d f)->b≠m:=fun hb n z=>by rw[z,A.hm] at hb;exact n _ _ _ (A0 hb).symm
 have e:m≠cd:=fun z=>by obtain⟨kvs,i,_⟩:=A.C;rw[<- z,A.hm] at i;cases i
 refine⟨⟨fun b o z=>by rw[fq (g6 z A.xm)];exact A.S.sX _ _ z,A.S.xf,by rw[fq (ne A.S.hfl fun _ _ _ z=>by cases z)];exact A.S.hfl,fun c hc=>(A.S.fr c hc).keep fun b o z w=>?_,A.S.np,A.S.nn⟩,A.ef,A.ch,A.xm,A.xc,ft,t,by rw[hl];exact A.lm,se A.C e (fun u z=>.inl (by rw[A.hm] at z;exact⟨_,_,_,(A0 z).symm⟩)),A.nm,A.nc,A.ne⟩;rw[fq];exact z;rcases w with w|w|w
 . exact fun y=>A.nm (by rw[<- y,w];exact Br hc)
 . exact ne z fun C d f y=>by rw[w,(A.S.fr c hc).hnd,y] at z;cases z
 . exact ne z w.1
theorem MAt.ma(A:MAt K j i X pcs m d c h cd H e s (a::r)):MaAt j i H m c h cd a.p a.pr a.pt a.nd ((r.map (·.p)).reverse) s.g s.fallen a.f.rc:=by
 have b:=A.S.fr a Af;refine⟨⟨d,e,A.hm,A.mf⟩,?_,⟨a.dx,a.fs,b.hp,b.ff,by have:=b.lf;lia⟩⟩;rw[A.S.hfl,Au,List.map_reverse,Bd,Ar,Dk];rfl
def Wd(y:Str):Prop:=i5 y=true\/y = "nil"
def FldW(y:Str):Prop:=y = "first" \/ y = "second"
inductive RowG:List Str->Prop
 | set (x y:Str)(hx:i5 x=true)(hy:Wd y):RowG [("set" : Str),x,y]
 | read (x y f:Str)(hx:i5 x=true)(hy:i5 y=true)(hf:FldW f):RowG [("read" : Str),x,y,f]
 | write (y f e:Str)(hy:i5 y=true)(hf:FldW f)(he:Wd e):RowG [("write" : Str),y,f,e]
 | new (x e d:Str)(hx:i5 x=true)(he:Wd e)(hd:Wd d):RowG [("new" : Str),x,e,d]
 | free (y:Str)(hy:i5 y=true):RowG [("free" : Str),y]
def a5g(r:List Str):Prop:=∃f x y:Str,r=[f,x,y]/\Wd x/\Wd y
def abo(pcs:List Prc):Deed->Prop
 | .plain (.row r)=>RowG r
 | .plain (.call x c ws)=>(x = "" \/ i5 x=true)/\(∀w∈ws,Wd w)/\∃pc,pcs[idxP pcs c]? = some pc/\pc.name=c/\ws.length=pc.ps.length/\(x = "" \/ i5 pc.res=true)
 | .cond r _ _=>a5g r
 | .loop r _ _ _=>a5g r
structure Pg(K:Ac)(X:Hp)(pcs:List Prc)(pd:Addr)(prs:List Addr)(xs:List Str):Prop where
 hpd:X pd=some (.dK ((byK (pcs.map (·.name)) prs).map kk))
 hps:Paired (PrcAt K X (B 5)) prs pcs
 nn:(pcs.map (·.name)).Nodup
 ok:∀pc∈pcs,PrcOk (B 5) xs pc/\pc.ps.Nodup/\∀d∈allL (B 5) pc.body,abo pcs d
theorem FrAt.word(h:FrAt K i X pcs H a)(hd:lx pcs a.f=some d):d∈allL (B 5) a.pc.body/\∀y∈wrd d,i5 y=true->y∈a.ys:=by
 obtain⟨l,ts,es,_,_,e,_,_,g,c,_⟩:=h.deed;have hm:=a0d (n:=5) (by lia) (a3m _ _ es _ d e (by rw[<- c];exact hd));refine⟨hm,fun y b hn=>(h.ym y).mpr ⟨hn,?_⟩⟩;unfold allW;exact AF _ (Bt.mpr ⟨d,hm,b⟩)
theorem km(a:Wd y)(h:i5 y=true->y∈ys):numV (vK ys F) y=some (.int (nilF F y)):=a61 (a.elim (fun z=>AD _ (h z)) fun z=>AF _ (Ao.mpr z))
theorem wd_ne:("read" : Str) ≠ "set" /\ ("write" : Str) ≠ "set" /\ ("write" : Str) ≠ "read" /\ ("new" : Str) ≠ "set" /\ ("new" : Str) ≠ "read" /\ ("new" : Str) ≠ "write" /\ ("free" : Str) ≠ "set" /\ ("free" : Str) ≠ "read" /\ ("free" : Str) ≠ "write" /\ ("free" : Str) ≠ "new" /\ ("second" : Str) ≠ "first" := by decide +kernel
theorem oy(r:List Str):oj (.plain (.row r))=if wAt r 0 = "read" then some (wAt r 2) else if wAt r 0 = "write" then some (wAt r 1) else if wAt r 0 = "free" then some (wAt r 1) else none:=rfl
theorem a0j(x y f:Str):oj (.plain (.row [("read" : Str),x,y,f]))=some y:=by
 rw[oy,if_pos (show wAt [("read" : Str),x,y,f] 0 = "read" from rfl)];rfl
theorem ze(y f e:Str):oj (.plain (.row [("write" : Str),y,f,e]))=some y:=by
 rw[oy,if_neg (show wAt [("write" : Str),y,f,e] 0 ≠ "read" from wd_ne.2.2.1),if_pos (show wAt [("write" : Str),y,f,e] 0 = "write" from rfl)];rfl
theorem a0f(y:Str):oj (.plain (.row [("free" : Str),y]))=some y:=by
 obtain⟨_,_,_,_,_,_,_,a,b,_⟩:=wd_ne;rw[oy,if_neg (show wAt [("free" : Str),y] 0 ≠ "read" from a),if_neg (show wAt [("free" : Str),y] 0 ≠ "write" from b),if_pos (show wAt [("free" : Str),y] 0 = "free" from rfl)];rfl
theorem MAt.change(A:MAt K R CF X pcs m G pd D cd H n s (a::r))(hf:s.fallen=false)(hg:RowG w)(l:∀y∈wrd (.plain (.row w)),i5 y=true->y∈a.ys)(ht:H t=some (.tup (w.map V.str)))(I:ln s.cs a.f.F (.plain (.row w))=false)(hc:s.cs.length<=800)(q:∀H' af,MAt K R CF X pcs m G pd D cd H' af ⟨{ a.f with F:=(iw w a.f.F s.cs s.g).1 }::r.map (·.f),(iw w a.f.F s.cs s.g).2.1,(iw w a.f.F s.cs s.g).2.2,false⟩ ({ a with f:={ a.f with F:=(iw w a.f.F s.cs s.g).1 } }::r)->KpM (muM m cd D (a::r)) H H'->Q .non H'):spChange K R CF [.ref m,.ref a.p,.ref t] H Q E:=by
 obtain⟨sf,cs,g,fb⟩:=s;cases hf;have k:=A.S.fr a Af;have lk:(vK a.ys a.f.F).length<=100:=by unfold vK;rw[Ad];have:=k.hl;lia
 obtain⟨kvs,hcd,u⟩:=id A.C;have lc:kvs.length<=900:=by rw[AB u];exact Ax hc (by decide)
 have P:a.nd∈muM m cd D (a::r):=by simp[muM]
 have N:cd∈muM m cd D (a::r):=by simp[muM]
 have mm:m∈muM m cd D (a::r):=by simp[muM]
 obtain⟨w1,w2,w3,w4,w5,w6,w7,w8,w9,ag,Z⟩:=wd_ne;have cell:∀{y:Str},oj (.plain (.row w))=some y->∃v,getC cs (nilF a.f.F y)=some v:=fun {y} h=>by
  unfold ln at I;rw[h] at I;cases e:getC cs (nilF a.f.F y) with
  | none=>simp only[e] at I;cases I
  | some v=>exact⟨v,rfl⟩
 cases hg with
 | set x y hx hy =>
  have e:iw [("set" : Str),x,y] a.f.F cs g=(upF a.f.F x (nilF a.f.F y),cs,g):=if_pos rfl;have d:wrd (.plain (.row [("set" : Str),x,y]))=[x,y]:=by show j9 "set" [x,y]=_;unfold j9;rfl
  rw[d] at l;rw[e] at q;refine .set m a.p a.dx a.pr a.pt a.nd t a.fs a.f.rc x y _ _ rfl k.hp k.ff ht k.hnd lk (km hy (l y (by simp))) ?_;rw[yv (l x (by simp) hx)];exact q _ n A.nums (KpM.put P)
 | read x y f hx hy hfl =>
  have e:iw [("read" : Str),x,y,f] a.f.F cs g=(upF a.f.F x (if f = "first" then (oldC cs (nilF a.f.F y)).1 else (oldC cs (nilF a.f.F y)).2),cs,g):=(if_neg w1).trans (if_pos rfl);have d:wrd (.plain (.row [("read" : Str),x,y,f]))=[x,y]:=by show j9 "read" [x,y,f]=_;unfold j9;rfl
  rw[d] at l;rw[e] at q;obtain⟨v,O⟩:=cell (y:=y) (a0j x y f);obtain⟨rr,g1,g2⟩:=(lg _ u).1 v O;have eo:oldC cs (nilF a.f.F y)=v:=by unfold oldC;rw[O];rfl
  rw[eo] at q;refine .read m a.p G a.dx a.pr a.pt a.nd pd D cd t rr n a.fs a.f.rc x y f g false _ _ _ _ _ (.int (if f = "first" then v.1 else v.2)) rfl A.hm A.mf k.hp k.ff ht k.hnd lk (km (.inl hy) (l y (by simp))) hcd g1 g2 ?_ ?_
  . rcases hfl with rfl|rfl
    . exact .inl ⟨rfl,by rw[if_pos rfl]⟩
    . exact .inr ⟨rfl,by rw[if_neg Z]⟩
  . rw[yv (l x (by simp) hx)];exact q _ n A.nums (KpM.put P)
 | write y f e' hy hfl he =>
  have e:iw [("write" : Str),y,f,e'] a.f.F cs g=(a.f.F,putC cs (nilF a.f.F y) (if f = "first" then (nilF a.f.F e',(oldC cs (nilF a.f.F y)).2) else ((oldC cs (nilF a.f.F y)).1,nilF a.f.F e')),g):=((if_neg w2).trans (if_neg w3)).trans (if_pos rfl);have d:wrd (.plain (.row [("write" : Str),y,f,e']))=[y,e']:=by show j9 "write" [y,f,e']=_;unfold j9;rfl
  rw[d] at l;rw[e] at q;obtain⟨v,O⟩:=cell (y:=y) (ze y f e');obtain⟨rr,g1,g2⟩:=(lg _ u).1 v O;have eo:oldC cs (nilF a.f.F y)=v:=by unfold oldC;rw[O];rfl
  rw[eo] at q;generalize hvv:(if f = "first" then (nilF a.f.F e',v.2) else (v.1,nilF a.f.F e'))=vv at q;refine .write m a.p G a.dx a.pr a.pt a.nd pd D cd t rr n a.fs a.f.rc y f e' g false _ _ _ _ _ _ (.int vv.1) (.int vv.2) rfl A.hm A.mf k.hp k.ff ht k.hnd (km (.inl hy) (l y (by simp))) (km he (l e' (by simp))) hcd lc g1 g2 ?_ fun c T j aa k1=>?_
  . rcases hfl with rfl|rfl
    . rw[if_pos rfl] at hvv;subst hvv;exact .inl ⟨rfl,rfl,rfl⟩
    . rw[if_neg Z] at hvv;subst hvv;exact .inr ⟨rfl,rfl,rfl⟩
  . have A1:=A.same j;have ae:Paired (CellAt K T) kvs cs:=Paired.mapP u fun _ _ z=>z.keep fun b o z _ _ _=>j _ _ z;have M:=A1.cells (uy (i:=nilF a.f.F y) (v:=vv) (r:=c) ae (SqT.of k1));refine q _ n ?_ ((KpM.of j).trans (KpM.put N));have ef:(a::r).map (·.f)=sf:=A.ef;rw[<- ef] at M;exact M
 | new x j d hx he hd =>
  have e:iw [("new" : Str),x,j,d] a.f.F cs g=(upF a.f.F x (g+1),putC cs (g+1) (nilF a.f.F j,nilF a.f.F d),g+1):=(((if_neg w4).trans (if_neg w5)).trans (if_neg w6)).trans (if_pos rfl);have ew:wrd (.plain (.row [("new" : Str),x,j,d]))=[x,j,d]:=by show j9 "new" [x,j,d]=_;unfold j9;rfl
  rw[ew] at l;rw[e] at q;have J:n.length<50:=AN A.lm (by decide);refine .new m a.p G a.dx a.pr a.pt a.nd pd D cd t n a.fs a.f.rc x j d g false _ _ _ _ rfl A.hm A.mf J (fun z=>A.nm (by rw[z];exact Af)) (fun z=>A.nc (by rw[<- z];exact Af)) k.hp k.ff ht k.hnd lk (km he (l j (by simp))) (km hd (l d (by simp))) hcd lc fun c aa=>?_;obtain⟨T,z0,s1,k1⟩:=gr aa (.tup [.int (nilF a.f.F j),.int (nilF a.f.F d)]);rw[z0];have A1:=(A.same s1).own (A.mf.great J (g+1)) (wj A.mf.greatest);have k2:(upd T m (.ins R G (putF "greatest" (.int (g+1)) n))) c=some (.tup [.int (nilF a.f.F j),.int (nilF a.f.F d)]):=by rw[fq (fun z=>by have y:=s1 _ _ A.hm;rw[<- z,k1] at y;cases y)];exact k1
  have ac:KpM (muM m cd D (a::r)) H (upd T m (.ins R G (putF "greatest" (.int (g+1)) n))):=(KpM.of s1).trans (KpM.put mm);have U:(upd T m (.ins R G (putF "greatest" (.int (g+1)) n))) cd=some (.dK kvs):=by rw[fq (fun z=>by have y:=A.hm;rw[<- z,hcd] at y;cases y)];exact s1 _ _ hcd
  generalize upd T m (.ins R G (putF "greatest" (.int (g+1)) n))=H2 at A1 k2 ac U |-;obtain⟨ab,L,Y⟩:=A1.C;have ek:kvs=ab:=by rw[U] at L;exact HO.dK.inj (A0 L)
  subst ek;have M:=A1.cells (uy (i:=g+1) (v:=(nilF a.f.F j,nilF a.f.F d)) (r:=c) Y (SqT.of k2));have W:KpM (muM m cd D (a::r)) H (upd H2 cd (.dK (putK kvs (Sum.inl (g+1)) (.ref c)))):=ac.trans (KpM.put N);generalize upd H2 cd (.dK (putK kvs (Sum.inl (g+1)) (.ref c)))=H3 at M W |-;rw[yv (l x (by simp) hx)];exact q _ _ M.nums (W.trans (KpM.put P))
 | free y hy =>
  have e:iw [("free" : Str),y] a.f.F cs g=(a.f.F,u6 cs (nilF a.f.F y),g):=(((if_neg w7).trans (if_neg w8)).trans (if_neg w9)).trans (if_neg ag);have d:wrd (.plain (.row [("free" : Str),y]))=[y]:=by show j9 "free" [y]=_;unfold j9;rfl
  rw[d] at l;rw[e] at q;obtain⟨v,O⟩:=cell (y:=y) (a0f y);obtain⟨rr,g1,g2⟩:=(lg _ u).1 v O;refine .free m a.p G a.dx a.pr a.pt a.nd pd D cd t n a.fs a.f.rc y g false _ _ _ _ rfl A.hm A.mf k.hp k.ff ht k.hnd (km (.inl hy) (l y (by simp))) hcd g1 ?_;have M:=A.cells (a4o (i:=nilF a.f.F y) u);refine q _ n ?_ (KpM.put N);have ef:(a::r).map (·.f)=sf:=A.ef;rw[<- ef] at M;exact M
theorem a55(a:s.fallen=false)(hs:s.frs=f::fr)(hd:lx pcs f=none):ju pcs s=s:=by
 unfold ju;rw[a,if_neg Ai,hs];simp only[hd]
theorem a4w(a:s.fallen=false)(hs:s.frs=f::fr)(hd:lx pcs f=some d)(hm:ln s.cs f.F d=true):ju pcs s={ s with fallen:=true }:=by
 unfold ju;rw[a,if_neg Ai,hs];simp only[hd,hm,if_true]
theorem a9l(a:s.fallen=false)(hs:s.frs=f::fr)(hd:lx pcs f=some d)(hm:ln s.cs f.F d=false):ju pcs s=doM pcs s f fr d:=by
 unfold ju;rw[a,if_neg Ai,hs];simp only[hd,hm];exact if_neg Ai
theorem MAt.move{due:Pre×Nat}(A:MAt K t j X pcs m n l q cd H o s (a::r))(hq:SqT K H i ((flat due.1++[(due.2:Int)]).map V.int))(ff:FFs fs' a.pr i a.nd a.f.rc)(lf:fs'.length=a.fs.length)(c:AtP a.pc.body due.1 due.2):MAt K t j X pcs m n l q cd (upd H a.p (.ins j a.dx fs')) o { s with frs:={ a.f with pp:=due.1,k:=due.2 }::r.map (·.f) } ({ a with pt:=i,fs:=fs',f:={ a.f with pp:=due.1,k:=due.2 } }::r):=by
 have g:=A.S.fr a Af;have e:m≠a.p:=fun z=>A.nm (by rw[z];exact Af);have d:a.p≠cd:=fun z=>by obtain⟨kvs,h,_⟩:=A.C;rw[<- z,g.hp] at h;cases h
 refine⟨A.S.move hq ff lf c,rfl,?_,A.xm,A.xc,by rw[fq e];exact A.hm,A.mf,A.lm,se A.C d (fun u z=>.inl (by rw[g.hp] at z;exact⟨_,_,_,(A0 z).symm⟩)),A.nm,A.nc,by simp⟩;have ch:=A.ch;cases r with
 | nil=>trivial
 | cons b r=>exact⟨ch.1,ch.2⟩
theorem MAt.frames{frs:List Fr}(A:MAt K E D X pcs m w F n cd H x s frs)(L:StAt K D X pcs H' n a)(kp:KpS n frs H H')(t:H' m=some (.ins E w x))(q:Chain a)(r:m∉a.map (·.p))(u:cd∉a.map (·.nd))(g:a≠[]):MAt K E D X pcs m w F n cd H' x { s with frs:=a.map (·.f) } a:=by
 obtain⟨kvs,I,J⟩:=A.C;have out:∀{b:Addr} {o:HO},H b=some o->(∀C d f,o≠.ins C d f)->(∀l,o≠.lst l)->b∉frs.map (·.nd)->H' b=some o:=fun {b o} h j v n3=>kp b o h (fun z=>by rw[z,A.S.hfl] at h;exact v _ (A0 h).symm) (fun z=>by
  obtain⟨c,hc,e⟩:=Az.mp z;have y:=(A.S.fr c hc).hp;rw[show c.p=b from e,h] at y;exact j _ _ _ (A0 y)) n3
 have k:∀{b:Addr} {o:HO},H b=some o->(∀kvs,o≠.dK kvs)->b∉frs.map (·.nd):=fun {b o} h i z=>by
  obtain⟨c,hc,e⟩:=Az.mp z;have y:=(A.S.fr c hc).hnd;rw[show c.nd=b from e,h] at y;exact i _ (A0 y)
 exact⟨L,rfl,q,A.xm,A.xc,t,A.mf,A.lm,⟨kvs,out I (fun _ _ _ z=>by cases z) (fun _ z=>by cases z) A.nc,Paired.mapP J fun _ _ z=>z.keep fun b o z j v G=>out z j G (k z v)⟩,r,u,g⟩
theorem mem_mu{frs:List Fr}:b∈muM m cd a frs↔b=m\/b=cd\/b=a\/b∈frs.map (·.p)\/b∈frs.map (·.nd):=by
 unfold muM;simp only[Ah,Bt,Az,Ay,or_false];constructor
 . rintro (h|h|h|⟨c,hc,h|h⟩)
   . exact .inl h
   . exact .inr (.inl h)
   . exact .inr (.inr (.inl h))
   . exact .inr (.inr (.inr (.inl ⟨c,hc,h.symm⟩)))
   . exact .inr (.inr (.inr (.inr ⟨c,hc,h.symm⟩)))
 . rintro (h|h|h|⟨c,hc,h⟩|⟨c,hc,h⟩)
   . exact .inl h
   . exact .inr (.inl h)
   . exact .inr (.inr (.inl h))
   . exact .inr (.inr (.inr ⟨c,hc,.inl h.symm⟩))
   . exact .inr (.inr (.inr ⟨c,hc,.inr h.symm⟩))
theorem ad5:("procedures" : Str) ≠ "fallen" /\ ("frames" : Str) ≠ "fallen" /\ ("cells" : Str) ≠ "fallen" /\ ("greatest" : Str) ≠ "fallen" := by decide +kernel
theorem aeq:∀m∈nj,m≠("fallen" : Str):=by decide +kernel
theorem MFs.fell(h:MFs fs c a cd g b)(hl:fs.length<50):MFs (putF "fallen" (.bl true) fs) c a cd g true:=by
 obtain⟨n1,n2,n3,n4⟩:=ad5;refine⟨?_,?_,?_,?_,?_,?_,fun m hm=>?_⟩
 . rw[gf,if_neg n1];exact h.procedures
 . rw[gf,if_neg n2];exact h.frames
 . rw[gf,if_neg n3];exact h.cells
 . rw[gf,if_neg n4];exact h.greatest
 . rw[gf,if_pos rfl]
 . have:=ir "fallen" (.bl true) fs;lia
 . rw[gf,if_neg (aeq m hm)];exact h.meth m hm
theorem wc:∀{p:Pre}{ds:List Deed},subL ds p=some es->es[k]? = some d->subD d s=some fs->subL ds (p++[(k,s)])=some fs
 | [],ds,h1,h2,h3=>by
  cases h1;show (es[k]?).bind _=_;rw[h2];show (subD d s).bind _=_;rw[h3];rfl
 | (i,u)::p,ds,h1,h2,h3=>by
  unfold subL at h1;obtain⟨d',e,c⟩:=GZ.mp h1;obtain⟨f,b,a⟩:=GZ.mp c;show (ds[i]?).bind _=_;rw[e];show (subD d' u).bind _=_;rw[b];exact wc a h2 h3
theorem a97(e:subL ds p=some es)(hd:es[k]? = some d):∃c,subL ds (re F p k d).1=some c/\(re F p k d).2<=c.length:=by
 have f:=(Aw.mp hd).1;cases d with
 | plain q=>exact⟨es,e,f⟩
 | cond r a b =>
  show ∃c,subL ds (goP (pw F r) "if" p k).1=some c/\(goP (pw F r) "if" p k).2<=c.length;unfold goP;by_cases z:pw F r=true
  . rw[if_pos z];exact⟨a,wc e hd rfl,AH _⟩
  . rw[if_neg z,if_pos rfl];exact⟨b,wc e hd rfl,AH _⟩
 | loop r FF PP a =>
  show ∃c,subL ds (goP (pw F r) "while" p k).1=some c/\(goP (pw F r) "while" p k).2<=c.length;unfold goP;by_cases z:pw F r=true
  . rw[if_pos z];exact⟨a,wc e hd rfl,AH _⟩
  . rw[if_neg z,if_neg (by decide +kernel)];exact⟨es,e,f⟩
theorem aae:places.lookup ("set" : Str)=none/\places.lookup ("new" : Str)=none/\places.lookup ("call" : Str)=none/\places.lookup ("if" : Str)=none/\places.lookup ("while" : Str)=none/\places.lookup ("read" : Str)=some (.int 2)/\places.lookup ("write" : Str)=some (.int 1)/\places.lookup ("free" : Str)=some (.int 1):=by
 have n:∀x∈([("set" : Str),"new","call","if","while"]:List Str),x ≠ "read" /\ x ≠ "write" /\ x ≠ "free" := by decide +kernel
 have k:∀x∈([("set" : Str),"new","call","if","while"]:List Str),places.lookup x=none:=fun x d=>by
  obtain⟨a,b,c⟩:=n x d;unfold places;simp only[Cj];rw[beq_eq_false_iff_ne.mpr a,beq_eq_false_iff_ne.mpr b,beq_eq_false_iff_ne.mpr c];rfl
 have n2:("write" : Str) ≠ "read" /\ ("free" : Str) ≠ "read" /\ ("free" : Str) ≠ "write" := by decide +kernel
 refine⟨k _ (by simp),k _ (by simp),k _ (by simp),k _ (by simp),k _ (by simp),?_,?_,?_⟩
 . unfold places;simp only[Cj,beq_self_eq_true]
 . unfold places;simp only[Cj,beq_self_eq_true];rw[beq_eq_false_iff_ne.mpr n2.1]
 . unfold places;simp only[Cj,beq_self_eq_true];rw[beq_eq_false_iff_ne.mpr n2.2.1,beq_eq_false_iff_ne.mpr n2.2.2]
inductive spStep(K:Ac)(CM CF:Addr)(vs:List V)(H:Hp)(Q:VK)(E:XK):Prop
 | mk (X:Hp)(m dm pd fl cd:Addr)(fm:List (Str×V))(pcs:List Prc)(s:PM)(frs:List Fr)(prs:List Addr)(xs:List Str)(h0:vs=[.ref m])(A:MAt K CM CF X pcs m dm pd fl cd H fm s frs)(P:Pg K X pcs pd prs xs)(hlen:frs.length<=800)(hc:s.cs.length<=800)(q:∀H' fm' frs',MAt K CM CF X pcs m dm pd fl cd H' fm' (ju pcs s) frs'->KpM (muM m cd fl frs) H H'->(∀b∈muM m cd fl frs',b∈muM m cd fl frs\/H b=none)->Q .non H'):spStep K CM CF vs H Q E
theorem add(bP:6<=n)(C:Con K mg w)(T:TxM K mg R fI)(U:TxF K mg Y fJ)(F:Fun K "step" "Machine.step" a66 f fd)(GW:FnOk P w K mg base CX0 5 gW dW ["self"] (spWord K R Y))(cW:MCal K R "word" gW dW ["self"])(GD:FnOk P w K mg base CX0 4 gD dD ["self"] (vt K Y))(cD:MCal K Y "deed" gD dD ["self"])(GN:FnOk P w K mg base CX0 2 gN dN ["self","word"] (uu Y))(cN:MCal K Y "number" gN dN ["self","word"])(GB:FnOk P w K mg base CX0 6 gB dB ["self","frame","deed"] (spBranch K Y))(cB:MCal K R "branch" gB dB ["self","frame","deed"])(GE:FnOk P w K mg base CX0 n gE dE ["self","frame","deed"] (spEnter K R Y))(cE:MCal K R "enter" gE dE ["self","frame","deed"])(GC:FnOk P w K mg base CX0 3 gC dC ["self","frame","deed"] (spChange K R Y))(cC:MCal K R "change" gC dC ["self","frame","deed"])(GM:FnOk P w K mg base CX0 5 gM dM ["self","path"] (sw K Y))(cM:MCal K Y "move" gM dM ["self","path"])(GL:FnOk P w K mg base CX0 5 gL dL ["self"] (spLeave K R Y))(cL:MCal K R "leave_ended" gL dL ["self"])(GK:FnOk P w K mg base CX0 1 gK dK ["deed"] (spCellName K))(cK:Cal K mg "cell_name" gK dK ["deed"])(GH:FnOk P w K mg base CX0 1 gH dH ["path"] (spBehind K))(cH:Cal K mg "behind_deed" gH dH ["path"]):FnOk P w K mg base CX0 (n+1) f fd ["self"] (spStep K R Y):=by
 refine F.okA ["self","frame","deed","name"] fun bR A outer s0 H vs Q E hr h nd=>?_;have bc:=kx hr;have ba:=hr.mono (j:=1) (by lia);have bw:=hr.mono (j:=2) (by lia);have bo:=hr.mono (j:=3) (by lia);have bB:=hr.mono (j:=4) (by lia);have aM:=hr.mono (j:=5) (by lia);have bO:=hr.mono (j:=6) (by lia);refine⟨_,fw (ie (gi ri (jj (qv 0) T.cl cW.meth GW aM cW.bind .nil im) i7 (gn _)) (fz a4f) iq)
  (fw (gp 1 nd (i0 K (i4 (K:=K) rfl (qv 0)) (jv jl fu)))
  (fw (gp 2 nd (jj (qv 1) U.cl cD.meth GD bB cD.bind .nil im))
  (fw (gp 3 nd (gk GK ba cK (fy (qv 2) ad)))
  (fw (ie (QW.qt (ph (gi adg (qv 3) oq (gn _)) (ng (a0i bc (jm (qv 1) U.cl cN.meth GN bw cN.bind .nil im (fy (qv 3) ad)) (i4 (K:=K) rfl (qv 0)))))) (fw (kq (K:=K) rfl (qv 0) ny)
  (fz a4f)) iq)
  (fw (ie (gi (ace (K:=K) rfl) (gz K (qv 2) fu) (je (i9 (i9 ad))) (by with_unfolding_all rfl)) (fz (ik (jm (qv 0) T.cl cB.meth GB bO cB.bind .nil im (fy (qv 1) (fy (qv 2) ad))))) (fz (ie (gi ib (gz K (qv 2) fu) i7 (gn _)) (fz (ik (jm (qv 0) T.cl cE.meth GE hr cE.bind .nil im (fy (qv 1) (fy (qv 2) ad))))) (fw (ik (jm (qv 0) T.cl cC.meth GC bo cC.bind .nil im (fy (qv 1) (fy (qv 2) ad))))
  (fz (ik (jm (qv 1) U.cl cM.meth GM aM cM.bind .nil im (gw (gk GH ba cH (jf (i4 (K:=K) rfl (qv 1)) ad)) ad))))))))
  (fz (ik (jj (qv 0) T.cl cL.meth GL aM cL.bind .nil im)))))))),?_⟩
 obtain⟨X,m,dm,pd,fl,cd,fm,pcs,s,frs,aP,xs,rfl,A,PG,a9,bu,q⟩:=h;obtain⟨a,r,rfl⟩:∃a r,frs=a::r:=by
  cases frs with
  | nil=>exact absurd rfl A.ne
  | cons a r=>exact⟨a,r,rfl⟩
 have Sa:=A.S.fr a Af;obtain⟨v1,v3,v4,hpr⟩:=Sa.hpr;obtain⟨l,ts,es,d1,d2,d3,d4,d5,d6,d7,d8⟩:=Sa.deed;have aA:s.frs=a.f::r.map (·.f):=A.ef.symm;cases hf:s.fallen with
 | true =>
  have mf:=A.mf;rw[hf] at mf;refine⟨_,rfl,m,dm,fm,rfl,A.hm,mf.meth _ (by decide +kernel),.fall m dm pd fl cd fm s.g rfl A.hm mf ?_⟩;refine⟨rfl,_,rfl,iteB (fun _=>?_) (fun c=>absurd c (by decide +kernel))⟩;refine q H fm (a::r) ?_ (fun _ _ z _=>z) (fun b hb=>.inl hb);rw[show ju pcs s=s from if_pos hf];exact A
 | false =>
 have ma:=A.ma;rw[hf] at ma;refine⟨_,rfl,m,dm,fm,rfl,A.hm,A.mf.meth _ (by decide +kernel),.fine m pd fl cd a.p a.pr a.pt a.nd a.bd l _ s.g a.f.rc _ v1 _ v3 v4 a.f.pp a.f.k ts rfl ma (A.S.sX _ _ hpr) Sa.hpt (d1.same A.S.sX) (by lia) (A.S.sX _ _ d2) fun H1 e1=>?_⟩;have A1:=A.same e1;by_cases aG:a.f.k<ts.length
 rotate_left
 . rw[if_neg aG];refine⟨rfl,_,rfl,iteB (fun _=>?_) (fun c=>absurd c (by decide +kernel))⟩;refine q H1 fm (a::r) ?_ (KpM.of e1) (fun b hb=>.inl hb);rw[a55 hf aA (by rw[d7,Bu (by lia)])];exact A1
 rw[if_pos aG];refine⟨rfl,_,rfl,iteB (fun c=>absurd c (by simp)) (fun _=>?_)⟩;have an:=A1.S.fr a Af;have hk:ts[a.f.k]? = some ts[a.f.k]:=Ag aG;generalize ts[a.f.k]=t at hk;obtain⟨d,bs,hd,W⟩:=d8 t hk;have aJ:lx pcs a.f=some d:=d7.trans hd;have a8:a.pc∈pcs:=AE Sa.hi;obtain⟨aQ,ae⟩:=Sa.word aJ;have af:=(PG.ok _ a8).2.2 d aQ;refine⟨_,rfl,m,R,dm,fm,_,rfl,A1.hm,T.cl,T.nF,A1.mf.frames,_,rfl,fl,_,_,_,rfl,rfl,SqL.of A1.S.last,jd,?_⟩;refine⟨_,rfl,a.p,a.dx,a.fs,rfl,an.hp,an.ff.meth _ (by simp),a.p,a.dx,a.pr,a.pt,a.nd,a.bd,a.fs,a.f.rc,_,v1,_,v3,v4,rfl,an.hp,an.ff,A1.S.sX _ _ hpr,a.bd,a.pt,l,a.f.pp,a.f.k,ts,rfl,an.hpt,d1.same A1.S.sX,by lia,A1.S.sX _ _ d2,fun t' H2 aa aU=>?_,fun H2 aS _=>by rw[hk] at aS;cases aS⟩;rw[hk] at aa;cases aa;have A2:=A1.same aU;have aV:=e1.trans aU;have N:=A2.S.fr a Af;dsimp only[gq];refine g8 (a:=tAsg _ _) fun D2 aC _ _=>?_;have aj:∀(u:V) (H5:Hp) (Z:List (Str×V)) (s5:PM) (M:Fr) (r5:List Fr),MAt K R Y X pcs m dm pd fl cd H5 Z s5 (M::r5)->KpM (muM m cd fl (a::r)) H H5->(∀b∈muM m cd fl (M::r5),b∈muM m cd fl (a::r)\/H b=none)->ju pcs s={ s5 with frs:=j4 pcs (r5.length+1) s5.frs }->mn (sd R "leave_ended" (spLeave K R Y) [] E0 (tVar 0) tNil) { nx:=fun x H'=>Q V.non H',rt:=Q } [some (.ref m),some (.ref a.p),some (.ref t),some u] H5:=fun u H5 Z s5 M r5 A5 aH a2 bf=>by
  refine⟨_,rfl,m,dm,Z,rfl,A5.hm,A5.mf.meth _ (by decide +kernel),.mk X m dm pd fl cd Z s5.g s5.fallen pcs M r5 rfl A5.hm A5.mf A5.S A5.ch fun H6 a6 r6 S6 bI bk aW bn ar=>?_⟩;refine q H6 Z (a6::r6) ?_ (fun b o h n=>?_) (fun b hb=>?_)
  . have A6:=A5.frames S6 aW bn bI (fun z=>?_) (fun z=>?_) (by simp)
    . rw[bk,A5.ef] at A6;rw[bf];exact A6
    . obtain⟨c,hc,e⟩:=Az.mp z;exact A5.nm (by rw[<- e];exact (ar c hc).1)
    . obtain⟨c,hc,e⟩:=Az.mp z;exact A5.nc (by rw[<- e];exact (ar c hc).2)
  . have nb:b∉muM m cd fl (M::r5):=fun z=>(a2 b z).elim n fun y=>by rw[h] at y;cases y
    rw[mem_mu] at nb;exact aW b o (aH b o h n) (fun z=>nb (.inr (.inr (.inl z)))) (fun z=>nb (.inr (.inr (.inr (.inl z))))) (fun z=>nb (.inr (.inr (.inr (.inr z)))))
  . refine a2 b ?_;rw[mem_mu] at hb |-;rcases hb with h|h|h|h|h
    . exact .inl h
    . exact .inr (.inl h)
    . exact .inr (.inr (.inl h))
    . obtain⟨c,hc,e⟩:=Az.mp h;exact .inr (.inr (.inr (.inl (by rw[<- e];exact (ar c hc).1))))
    . obtain⟨c,hc,e⟩:=Az.mp h;exact .inr (.inr (.inr (.inr (by rw[<- e];exact (ar c hc).2))))
 have aB:a.f.k<es.length:=by lia
 have bg:ln s.cs a.f.F d=false->ju pcs s=doM pcs s a.f (r.map (·.f)) d:=fun hm=>a9l hf aA aJ hm;have lr:(r.map (·.f)).length=r.length:=Ad _;have ac:∀(u:V) (H5:Hp) (Z:List (Str×V)) (s5:PM) (M:Fr) (q1:Addr) (fs':List (Str×V)) (pl:Pre×Nat),MAt K R Y X pcs m dm pd fl cd H5 Z s5 (M::r)->M.p=a.p->M.nd=a.nd->M.pc=a.pc->M.f.i=a.f.i->KpM (muM m cd fl (a::r)) H H5->(∃ah,subL a.pc.body pl.1=some ah/\pl.2<=ah.length)->SqT K H5 q1 ((flat (dueR a.pc.body pl.1.reverse pl.2).1++[((dueR a.pc.body pl.1.reverse pl.2).2:Int)]).map V.int)->FFs fs' M.pr q1 M.nd M.f.rc->fs'.length=M.fs.length->ju pcs s=⟨j4 pcs (r.length+1) (ly pcs M.f pl::r.map (·.f)),s5.cs,s5.g,s5.fallen⟩->mn (sd R "leave_ended" (spLeave K R Y) [] E0 (tVar 0) tNil) { nx:=fun x H'=>Q V.non H',rt:=Q } [some (.ref m),some (.ref a.p),some (.ref t),some u] (upd H5 M.p (.ins Y M.dx fs')):=fun u H5 Z s5 M q1 fs' pl A5 p1 p2 p3 p4 aH ak hq1 al bL he=>by
  obtain⟨ah,av,ao⟩:=ak;obtain⟨_,st,_⟩:=n0 Sa.L av ao;have bG:AtP M.pc.body (dueR a.pc.body pl.1.reverse pl.2).1 (dueR a.pc.body pl.1.reverse pl.2).2:=by rw[p3];exact zf Sa.L st
  have A6:=A5.move (due:=dueR a.pc.body pl.1.reverse pl.2) hq1 al bL bG;refine aj u _ Z _ _ r A6 (aH.trans (KpM.put (by rw[p1];simp[muM]))) (fun b hb=>.inl ?_) ?_
  . have e:muM m cd fl ({ M with pt:=q1,fs:=fs',f:={ M.f with pp:=(dueR a.pc.body pl.1.reverse pl.2).1,k:=(dueR a.pc.body pl.1.reverse pl.2).2 } }::r)=muM m cd fl (a::r):=by
     show m::cd::fl::(M.p::M.nd::_)=m::cd::fl::(a.p::a.nd::_)
     rw[p1,p2]
    rw[e] at hb;exact hb
  . rw[he];have eb:rk pcs M.f=a.pc.body:=by unfold rk;rw[p4,Sa.hi];rfl
    unfold ly;rw[eb]
 have go:∀u:V,ln s.cs a.f.F d=false->(u=.non\/∃x,u=.str x/\oj d=some x/\i5 x=true/\x∈wrd d)->D2.nx [some (.ref m),some (.ref a.p),some (.ref t),some u] H2:=fun u D bC=>by
  refine aC _ _ ?_;refine g8 (a:=tIfS _ _ _) fun D3 a3 _ _=>?_;have main:D3.nx [some (.ref m),some (.ref a.p),some (.ref t),some u] H2:=a3 _ _ (by
   have he:=bg D;clear aC a3;refine g8 (a:=tIfS _ _ _) fun D4 aE _ _=>?_;obtain⟨wd,us,O⟩:∃(wd:Str) (us:List V),X t=some (.tup (.str wd::us)):=by
    obtain⟨wd,us,h,_⟩:=acp W;exact⟨wd,us,h⟩
   refine⟨_,rfl,t,_,0,_,rfl,rfl,SqT.of (A2.S.sX _ _ O),at0,(show 2<=sizeLine by decide),fun p2 bD=>?_⟩;obtain⟨H3,z0,s3,k3⟩:=gr bD (.tup [.str "if",.str "while"]);change H3 p2=some (.tup (([("if" : Str),"while"]:List Str).map V.str)) at k3;rw[z0];have J:=A2.same s3;have ai:=J.S.fr a Af;have am:=aV.trans s3;refine⟨p2,_,rfl,.inr (SqT.of k3),rfl,pq _,_,rfl,?_⟩;rw[o7];have br:∀(au:Str) (c:Addr) (u2 u3:V) (f0 x0 y0:Str),X t=some (.tup [.str au,.ref c,u2,u3])->X c=some (.tup [.str f0,.str x0,.str y0])->Wd x0->Wd y0->wrd d=[x0,y0]\/(∃zs,wrd d=[x0,y0]++zs)->re a.f.F a.f.pp a.f.k d=goP (r8 f0 (nilF a.f.F x0) (nilF a.f.F y0)) au a.f.pp a.f.k->ju pcs s=⟨j4 pcs (r.length+1) (ly pcs a.f (re a.f.F a.f.pp a.f.k d)::r.map (·.f)),s.cs,s.g,s.fallen⟩->∀Q':VK,(∀G,D4.nx [some (.ref m),some (.ref a.p),some (.ref t),some u] G->Q' .non G)->spBranch K Y [.ref m,.ref a.p,.ref t] H3 Q' E0:=fun au c u2 u3 f0 x0 y0 h1 h2 hx hy bj bb bt Q' q'=>by
    have ak:=a97 (F:=a.f.F) d3 hd;obtain⟨ah,av,ao⟩:=ak;obtain⟨e',st,_⟩:=n0 Sa.L av ao;have aR:x0∈wrd d/\y0∈wrd d:=by
     rcases bj with h|⟨zs,h⟩<;>rw[h]<;>simp
    refine .mk m a.p a.dx a.pr a.pt a.nd a.bd t c a.fs a.f.rc au f0 x0 y0 _ v1 _ v3 v4 u2 u3 _ _ _ a.f.pp a.f.k (dueR a.pc.body (re a.f.F a.f.pp a.f.k d).1.reverse (re a.f.F a.f.pp a.f.k d).2) e' rfl ai.hp ai.ff (by have:=ai.lf;lia) (J.S.sX _ _ hpr) ai.hpt (J.S.sX _ _ h1) (SqT.of (J.S.sX _ _ h2)) ai.hnd (km hx (ae x0 aR.1)) (km hy (ae y0 aR.2)) (by lia) (by rw[<- bb];exact st.same J.S.sX) fun q1 fs' H4 e4 hq1 al bN _=>q' _ (aE _ _ ?_);exact ac u H4 fm s a q1 fs' (re a.f.F a.f.pp a.f.k d) (J.same e4) rfl rfl rfl rfl (KpM.of (am.trans e4)) ⟨ah,av,ao⟩ hq1 al bN bt
   rw[if_neg Ai];cases d with
   | cond cr ca cb =>
    obtain⟨f0,x0,y0,rfl,hx,hy⟩:=af;cases W with
    | cond c i o _ _ _ h hc okr hi ho =>
     have eh:=h;rw[O] at eh;cases eh;exact iteB (fun _=>⟨_,rfl,m,dm,fm,rfl,J.hm,J.mf.meth _ (by decide +kernel),_,rfl,_,rfl,br "if" c _ _ f0 x0 y0 h hc hx hy (.inl rfl) rfl (by rw[he,hf,<- lr];rfl) _ fun G hG=>hG⟩) (fun c=>absurd (by simp) (of_decide_eq_false c))
   | loop cr FF PP ca =>
    obtain⟨f0,x0,y0,rfl,hx,hy⟩:=af;cases W with
    | loop c td i fa pa _ _ _ _ h hc =>
     have eh:=h;rw[O] at eh;cases eh;exact iteB (fun _=>⟨_,rfl,m,dm,fm,rfl,J.hm,J.mf.meth _ (by decide +kernel),_,rfl,_,rfl,br "while" c _ _ f0 x0 y0 h hc hx hy (.inr ⟨_,rfl⟩) rfl (by rw[he,hf,<- lr];rfl) _ fun G hG=>hG⟩) (fun c=>absurd (by simp) (of_decide_eq_false c))
   | plain pl =>
    cases pl with
    | row w =>
     have I:X t=some (.tup (w.map V.str)):=by cases W with|plain _ h1 _=>exact h1
     obtain⟨w0,rest,ew,n1,n2,n3⟩:∃(w0:Str) (rest:List Str),w=w0::rest/\w0 ≠ "if" /\ w0 ≠ "while" /\ w0 ≠ "call" := by
      cases af<;>exact⟨_,_,rfl,by decide +kernel,by decide +kernel,by decide +kernel⟩
     have aO:wd=w0:=by
      have y:=I;rw[ew,O] at y;injection y with y;injection y with y;injection y with y _;injection y
     refine iteB (fun c=>absurd (of_decide_eq_true c) (by rw[aO];simp[n1,n2])) (fun _=>?_);refine⟨_,rfl,t,_,0,_,rfl,rfl,SqT.of (J.S.sX _ _ O),at0,rfl,_,rfl,iteB (fun c=>absurd (V.str.inj (of_decide_eq_true c)) (by rw[aO];exact n3)) (fun _=>?_)⟩;refine⟨_,rfl,m,dm,fm,rfl,J.hm,J.mf.meth _ (by decide +kernel),_,rfl,_,rfl,J.change hf af ae (J.S.sX _ _ I) D bu fun H4 bA A4 ax=>?_⟩;have ab:=A4.S.fr _ Af;refine⟨_,rfl,a.p,a.dx,a.fs,rfl,ab.hp,ab.ff.meth _ (by simp),?_⟩;refine⟨_,rfl,a.p,Y,a.dx,a.fs,_,rfl,ab.hp,U.cl,U.nA,ab.ff.path,.mk a.pt (flat a.f.pp) (a.f.k:Int) rfl ab.hpt (by rw[m4];lia) fun q0 H5 e5 bM=>?_⟩;obtain⟨e',st,_⟩:=n0 Sa.L d3 (show a.f.k+1<=es.length from aB);refine⟨a.p,a.dx,a.pr,a.pt,a.nd,a.bd,q0,a.fs,a.f.rc,_,v1,_,v3,v4,a.f.pp,a.f.k+1,_,e',rfl,e5 _ _ ab.hp,ab.ff,(by have:=Sa.lf;lia),e5 _ _ (A4.S.sX _ _ hpr),bM,(st.same A4.S.sX).same e5,(by lia),fun q1 fs' H6 e6 hq1 al bJ _=>aE _ _ ?_⟩;exact ac u H6 bA ⟨{ a.f with F:=(iw w a.f.F s.cs s.g).1 }::r.map (·.f),(iw w a.f.F s.cs s.g).2.1,(iw w a.f.F s.cs s.g).2.2,false⟩ { a with f:={ a.f with F:=(iw w a.f.F s.cs s.g).1 } } q1 fs' (a.f.pp,a.f.k+1) (A4.same (e5.trans e6)) rfl rfl rfl rfl (((KpM.of am).trans ax).trans (KpM.of (e5.trans e6))) ⟨es,d3,aB⟩ hq1 al bJ (by rw[he,<- lr];rfl)
    | call x c ws =>
     obtain⟨hx,bm,pc,ag,aX,bq,a1⟩:=af;obtain⟨v,aa,hv⟩:PlAt X t (.call x c ws):=by cases W with|plain _ h1 _=>exact h1
     have eh:=aa;rw[O] at eh;cases eh;refine iteB (fun c=>absurd (of_decide_eq_true c) (by decide +kernel)) (fun _=>?_);refine⟨_,rfl,t,_,0,_,rfl,rfl,SqT.of (J.S.sX _ _ O),at0,rfl,_,rfl,iteB (fun _=>?_) (fun c=>absurd c (by simp))⟩;have a7:pc∈pcs:=AE ag;have bx:=(Aw.mp ag).1;obtain⟨aI,az⟩:∃aI,aP[idxP pcs c]? = some aI:=⟨_,Ag (by rw[AB PG.hps];exact bx)⟩
     have bz:=Paired.at2 PG.hps az ag;have aT:=a1i (ns:=pcs.map (·.name)) (ts:=aP) (n:=c) PG.nn (by rw[Am,ag];show some pc.name=_;rw[aX]) az;have bH:m≠a.p:=fun z=>A.nm (by rw[z];exact Af);refine⟨_,rfl,m,dm,fm,rfl,J.hm,J.mf.meth _ (by decide +kernel),_,rfl,_,rfl,.mk X m dm pd fl cd t v aI fm s.g s.fallen pcs a r x c ws xs _ pc (idxP pcs c) es rfl ⟨J.hm,bH⟩ J.mf J.S aa hv (fun w hw=>(bm w hw).elim (fun z=>AD _ (ae w (Al _ hw) z)) (fun z=>AF _ (Ao.mpr z))) PG.hpd aT bz (PG.ok pc a7).1 bq (PG.ok pc a7).2.1 d3 aB ag (by rw[AC] at a9;lia) fun H4 n a' S4 en aZ ea ep ay a0 a4 aK aN ax be=>aE _ _ ?_⟩;have Sn:=S4.fr n Af;have bp:Chain (n::a'::r):=by
      refine⟨?_,?_⟩
      . unfold a10;rw[en,aZ,a0];rcases a1 with z|z
        . exact .inl z
        . rcases hx with y|y
          . exact .inl y
          . refine .inr ⟨(Sn.ym _).mpr ⟨z,?_⟩,ae x Af y⟩;rw[aZ];unfold allW;simp
      . have ch:=A.ch;cases r with
        | nil=>trivial
        | cons b r =>
         refine⟨?_,ch.2⟩;have c1:=ch.1;unfold a10 at c1 |-;rw[ea,a4,a0];exact c1
     have bh:m∉(n::a'::r).map (·.p):=fun z=>by
      rcases Ah.mp z with y|y
      . rw[show n.p=m from y.symm,J.hm] at aK;cases aK
      . exact A.nm (by rw[Ar] at y |-;rw[<- ep];exact y)
     have bF:cd∉(n::a'::r).map (·.nd):=fun z=>by
      rcases Ah.mp z with y|y
      . obtain⟨kvs,h1,_⟩:=J.C;rw[show n.nd=cd from y.symm,h1] at aN;cases aN
      . exact A.nc (by rw[Ar] at y |-;rw[<- ay];exact y)
     have A4:=J.frames S4 ax be bp bh bF (by simp);refine aj u H4 fm _ n (a'::r) A4 (fun b o h nb=>?_) (fun b hb=>?_) ?_
     . rw[mem_mu] at nb;exact ax b o (am _ _ h) (fun z=>nb (.inr (.inr (.inl z)))) (fun z=>nb (.inr (.inr (.inr (.inl z))))) (fun z=>nb (.inr (.inr (.inr (.inr z)))))
     . rw[mem_mu] at hb |-;rcases hb with h|h|h|h|h
       . exact .inl (.inl h)
       . exact .inl (.inr (.inl h))
       . exact .inl (.inr (.inr (.inl h)))
       . rcases Ah.mp h with y|y
         . exact .inr (by rw[y];exact am.free aK)
         . exact .inl (.inr (.inr (.inr (.inl (by rw[Ar] at y |-;rw[<- ep];exact y)))))
       . rcases Ah.mp h with y|y
         . exact .inr (by rw[y];exact am.free aN)
         . exact .inl (.inr (.inr (.inr (.inr (by rw[Ar] at y |-;rw[<- ay];exact y)))))
     . rw[he];show PM.mk (j4 pcs ((r.map (·.f)).length+2) (⟨idxP pcs c,[],0,qf (psP pcs (idxP pcs c)) ws a.f.F,x⟩::ly pcs a.f (a.f.pp,a.f.k+1)::r.map (·.f))) s.cs s.g false=⟨j4 pcs ((a'::r).length+1) ((n::a'::r).map (·.f)),s.cs,s.g,s.fallen⟩
       rw[hf,lr,Ar,Ar,en,ea,show psP pcs (idxP pcs c)=pc.ps by unfold psP;rw[ag];rfl];rfl)
  rcases bC with rfl|⟨x,rfl,hx,aq,ap⟩
  . exact⟨_,rfl,rfl,_,rfl,iteB (fun c=>absurd c (by simp)) (fun _=>(if_neg Ai).mpr main)⟩
  . obtain⟨kvs,hcd,aD⟩:=A2.C;obtain⟨v,hv⟩:∃v,getC s.cs (nilF a.f.F x)=some v:=by
     unfold ln at D;rw[hx] at D;cases e:getC s.cs (nilF a.f.F x) with
     | none=>simp only[e] at D;cases D
     | some v=>exact⟨v,rfl⟩
    obtain⟨rr,g1,_⟩:=(lg _ aD).1 v hv;have hg:=DGet.k (k:=Sum.inl (nilF a.f.F x)) hcd;rw[g1] at hg;refine⟨_,rfl,rfl,_,rfl,iteB (fun _=>?_) (fun c=>absurd c (by simp))⟩;refine⟨_,rfl,a.p,a.dx,a.fs,rfl,N.hp,N.ff.meth _ (by simp),_,rfl,a.p,a.dx,a.pr,a.pt,a.nd,a.fs,a.f.rc,x,rfl,N.hp,N.ff,l9 N.hnd (km (.inl aq) (ae x ap)) ?_⟩;exact⟨_,rfl,m,R,dm,fm,_,rfl,A2.hm,T.cl,T.nC,A2.mf.cells,cd,_,rfl,hg,_,rfl,(if_neg Ai).mpr main⟩
 have cn:∃(wd:Str) (us:List V),X t=some (.tup (.str wd::us))/\((places.lookup wd=none/\oj d=none)\/∃(k:Nat) (x:Str),places.lookup wd=some (.int (k:Int))/\(V.str wd::us)[k]? = some (.str x)/\oj d=some x/\i5 x=true/\x∈wrd d):=by
  obtain⟨p1,p2,p3,p4,p5,p6,p7,p8⟩:=aae;cases d with
  | cond cr ca cb=>cases W with|cond c i o _ _ _ h=>exact⟨_,_,h,.inl ⟨p4,rfl⟩⟩
  | loop cr FF PP ca=>cases W with|loop c td i fa pa _ _ _ _ h=>exact⟨_,_,h,.inl ⟨p5,rfl⟩⟩
  | plain pl =>
   cases pl with
   | call x c ws =>
    obtain⟨v,aa,hv⟩:PlAt X t (.call x c ws):=by cases W with|plain _ h1 _=>exact h1
    exact⟨_,_,aa,.inl ⟨p3,rfl⟩⟩
   | row w =>
    have I:X t=some (.tup (w.map V.str)):=by cases W with|plain _ h1 _=>exact h1
    obtain⟨w1,w2,w3,w4,w5,w6,w7,w8,w9,bE,bQ⟩:=wd_ne;cases af with
    | set x y hx hy=>exact⟨_,_,I,.inl ⟨p1,by rw[oy,if_neg (show wAt [("set" : Str),x,y] 0 ≠ "read" from w1.symm),if_neg (show wAt [("set" : Str),x,y] 0 ≠ "write" from w2.symm),if_neg (show wAt [("set" : Str),x,y] 0 ≠ "free" from w7.symm)]⟩⟩
    | new x e1 e2 hx=>exact⟨_,_,I,.inl ⟨p2,by rw[oy,if_neg (show wAt [("new" : Str),x,e1,e2] 0 ≠ "read" from w5),if_neg (show wAt [("new" : Str),x,e1,e2] 0 ≠ "write" from w6),if_neg (show wAt [("new" : Str),x,e1,e2] 0 ≠ "free" from bE.symm)]⟩⟩
    | read x y f hx hy hfl=>exact⟨_,_,I,.inr ⟨2,y,p6,rfl,a0j x y f,hy,by show y∈j9 "read" [x,y,f];unfold j9;exact Al _ Af⟩⟩
    | write y f e' hy hfl he=>exact⟨_,_,I,.inr ⟨1,y,p7,rfl,ze y f e',hy,by show y∈j9 "write" [y,f,e'];unfold j9;exact Af⟩⟩
    | free y hy=>exact⟨_,_,I,.inr ⟨1,y,p8,rfl,a0f y,hy,by show y∈j9 "free" [y];unfold j9;exact Af⟩⟩
 obtain⟨wd,us,O,bi⟩:=cn;rcases bi with⟨aL,aw⟩|⟨k,x,aL,bv,aw,aq,ap⟩
 . exact⟨_,rfl,.none t wd us rfl (SqT.of (A2.S.sX _ _ O)) aL (go .non (by unfold ln;rw[aw]) (.inl rfl))⟩
 . refine⟨_,rfl,.some t wd us k (.str x) rfl (SqT.of (A2.S.sX _ _ O)) aL bv ?_⟩;cases D:ln s.cs a.f.F d with
   | false=>exact go (.str x) D (.inr ⟨x,rfl,aw,aq,ap⟩)
   | true =>
    have aF:getC s.cs (nilF a.f.F x)=none:=by
     unfold ln at D;rw[aw] at D;cases e:getC s.cs (nilF a.f.F x) with
     | none=>rfl
     | some v=>simp only[e] at D;cases D
    obtain⟨kvs,hcd,aD⟩:=A2.C;have hg:=DGet.k (k:=Sum.inl (nilF a.f.F x)) hcd;rw[(lg _ aD).2 aF] at hg;refine aC [some (.ref m),some (.ref a.p),some (.ref t),some (.str x)] _ ?_;refine⟨_,rfl,rfl,_,rfl,iteB (fun _=>?_) (fun c=>absurd c (by simp))⟩;refine⟨_,rfl,a.p,a.dx,a.fs,rfl,N.hp,N.ff.meth _ (by simp),_,rfl,a.p,a.dx,a.pr,a.pt,a.nd,a.fs,a.f.rc,x,rfl,N.hp,N.ff,l9 N.hnd (km (.inl aq) (ae x ap)) ?_⟩;refine⟨_,rfl,m,R,dm,fm,_,rfl,A2.hm,T.cl,T.nC,A2.mf.cells,cd,none,rfl,hg,_,rfl,(if_pos rfl).mpr ?_⟩;have aY:fm.length<50:=AN A.lm (by decide);refine⟨_,rfl,m,R,dm,fm,rfl,A2.hm,T.cl,T.nL,by lia,?_⟩;have J:=A2.own (A2.mf.fell aY) (wj A2.mf.fallen);refine q _ (putF "fallen" (.bl true) fm) (a::r) ?_ ((KpM.of aV).trans (KpM.put (by simp[muM]))) (fun b hb=>.inl hb);rw[a4w hf aA aJ D];exact J
abbrev a3a:Stmt:=kh (top 30) 2
def oo(pcs:List Prc)(s:PM):Str:=if s.fallen=true then "fall" else match s.frs with
 | [] => "end"
 | f::_=>if (lx pcs f).isSome=true then "on" else "end"
def pj(pcs:List Prc)(s:PM):Option (Str×Pre×Nat):=if oo pcs s = "end" then none else match s.frs with
 | []=>none
 | f::_=>some (((pcs[f.i]?).map (·.name)).getD "",f.pp,f.k)
def a3j(K:Ac)(H:Hp)(v:V):Option (Str×Pre×Nat)->Prop
 | none=>v=.non
 | some (nm,pp,k)=>∃r pt,v=.ref r/\H r=some (.tup [.str nm,.ref pt])/\SqT K H pt ((flat pp++[(k:Int)]).map V.int)
theorem MAt.word(A:MAt K w v X pcs m t e h cd H u s (a::r))(q:∀H',Same H H'->Q (.str (oo pcs s)) H'):spWord K w v [.ref m] H Q E:=by
 have c:=A.S.fr a Af;obtain⟨n,i,o,hpr⟩:=c.hpr;obtain⟨l,ts,es,y,D,L,G,F,I,x,J⟩:=c.deed;have d:s.frs=a.f::r.map (·.f):=A.ef.symm;unfold oo at q;cases hf:s.fallen with
 | true =>
  have mf:=A.mf;rw[hf] at mf;rw[hf,if_pos rfl] at q;exact .fall m t e h cd u s.g rfl A.hm mf (q H (Same.refl _))
 | false =>
  have ma:=A.ma;rw[hf] at ma;rw[hf,if_neg Ai,d] at q;refine .fine m e h cd a.p a.pr a.pt a.nd a.bd l _ s.g a.f.rc _ n _ i o a.f.pp a.f.k ts rfl ma (A.S.sX _ _ hpr) c.hpt (y.same A.S.sX) (by lia) (A.S.sX _ _ D) fun C j=>?_;have b:=q C j;dsimp only at b;rw[x] at b;by_cases z:a.f.k<ts.length
  . rw[if_pos z];rw[Ag (by lia)] at b;exact b
  . rw[if_neg z];rw[Bu (by lia)] at b;exact b
inductive spWhere(K:Ac)(CM CF:Addr)(vs:List V)(H:Hp)(Q:VK)(E:XK):Prop
 | mk (X:Hp)(m dm pd fl cd:Addr)(fm:List (Str×V))(pcs:List Prc)(s:PM)(a:Fr)(r:List Fr)(h0:vs=[.ref m])(A:MAt K CM CF X pcs m dm pd fl cd H fm s (a::r))(q:∀v H',Same H H'->a3j K H' v (pj pcs s)->Q v H'):spWhere K CM CF vs H Q E
theorem a9h(C:Con K mg w)(T:TxM K mg e L)(U:TxF K mg j W)(F:Fun K "where" "Machine.where" a3a f fd)(D:FnOk P w K mg base CX0 5 y x ["self"] (spWord K e j))(v:MCal K e "word" y x ["self"]):FnOk P w K mg base CX0 6 f fd ["self"] (spWhere K e j):=by
 refine F.okA ["self"] fun G A outer N H vs Q E g h nd=>?_;refine⟨_,fw (ie (gi ib (jj (qv 0) T.cl v.meth D g v.bind .nil im) i7 (gn _)) (fz (gu oq)) iq)
  (fz (gu (je (gj (gz K (i4 (K:=K) rfl (i0 K (i4 (K:=K) rfl (qv 0)) (jv jl fu))) fu) (jf (i4 (K:=K) rfl (i0 K (i4 (K:=K) rfl (qv 0)) (jv jl fu))) ad))))),?_⟩
 obtain⟨X,m,o,M,u,cd,t,pcs,s,a,r,rfl,A,q⟩:=h;refine⟨_,rfl,m,o,t,rfl,A.hm,A.mf.meth _ (by decide +kernel),A.word fun I n=>?_⟩;have d:=A.same n;have b:=d.S.fr a Af;obtain⟨O,J,R,hpr⟩:=b.hpr;have k:s.frs=a.f::r.map (·.f):=A.ef.symm;unfold pj at q;refine⟨rfl,_,rfl,iteB (fun c=>?_) (fun c=>?_)⟩
 . rw[if_pos (V.str.inj (of_decide_eq_true c))] at q;exact q .non I n rfl
 . rw[if_neg (fun z=>of_decide_eq_false c (by rw[z])),k] at q;have l:((pcs[a.f.i]?).map (·.name)).getD ("" : Str)=a.pc.name:=by rw[b.hi];rfl
   dsimp only at q;rw[l] at q;exact⟨_,rfl,m,e,o,t,_,rfl,d.hm,T.cl,T.nF,A.mf.frames,_,rfl,u,_,_,_,rfl,rfl,SqL.of d.S.last,jd,a.p,j,a.dx,a.fs,_,rfl,b.hp,U.cl,U.nP,b.ff.procedure,a.pr,_,0,_,rfl,rfl,SqT.of (d.S.sX _ _ hpr),at0,_,rfl,m,e,o,t,_,rfl,d.hm,T.cl,T.nF,A.mf.frames,_,rfl,u,_,_,_,rfl,rfl,SqL.of d.S.last,jd,a.p,j,a.dx,a.fs,_,rfl,b.hp,U.cl,U.nA,b.ff.path,(show 2<=sizeLine by decide),fun r g=>q (.ref r) _ (n.trans (gc g _)) ⟨r,a.pt,rfl,ft,(gc g _).seqT b.hpt⟩⟩
abbrev a8a:Stmt:=top 44
inductive spValue(vs:List V)(H:Hp)(Q:VK)(E:XK):Prop
 | mk (dl sl:Addr)(n:Int)(ss:List Int)(h0:vs=[.ref dl,.ref sl])(h1:H dl=some (.lst [.int n]))(h2:H sl=some (.lst (ss.map V.int)))(h3:ss.length=6)(q:∀(v n':Int) H',jq dl H H'->H' dl=some (.lst [.int n'])->Q (.int v) H'):spValue vs H Q E
theorem a9t(C:Con K mg w)(F:Fun K "_law_value" "_law_value" a8a f fd)(x:FnOk P w K mg base CX0 1 G N ["_law_digits","_law_many"] mj)(c:Cal K mg "_law_digit" G N ["_law_digits","_law_many"]):FnOk P w K mg base CX0 2 f fd ["_law_digits","_law_spots"] spValue:=by
 refine F.okA ["_law_digits","_law_spots","_law_at"] fun R A outer S H vs Q E t h nd=>?_;obtain⟨dl,u,n,a,rfl,v,k,g,q⟩:=h;refine⟨_,fw (gp 2 nd (gk x t c (fy (qv 0) (gs ad))))
  (fw (ie (gi ib (qv 2) fu (gn _)) (fz (gu (gk x t c (fy (qv 0) (jb (gh vj fu fu) ad))))) iq)
  (fz (gu (i0 K (gh ky (qv 1) (i8 (gs (gs ad)))) (qv 2))))),?_⟩
 have r:u≠dl:=fun z=>by
  rw[z,v] at k;have:=congrArg Hl (HO.lst.inj (A0 k));rw[Ad,g] at this;simp at this
 refine⟨_,rfl,dl,n,9,rfl,v,(by decide),(by decide),?_⟩;have k1:(upd H dl (.lst [.int (n / 9)])) dl=some (.lst [.int (n / 9)]):=ft;have d:jq dl H (upd H dl (.lst [.int (n / 9)])):=fun b o z nb=>by rw[fq nb];exact z
 dsimp only[gq];generalize upd H dl (.lst [.int (n / 9)])=D at d k1 |-;have J:=B8 n (show (9:Int)≠0 by decide);have O:=Bz n (show (0:Int)<9 by decide);refine⟨_,rfl,rfl,_,rfl,iteB (fun _=>?_) (fun hc=>?_)⟩
 . refine⟨_,rfl,_,_,rfl,rfl,(show CPow 10 60 from⟨by decide,by decide,by decide⟩),dl,_,_,rfl,k1,(by decide +kernel),(by decide +kernel),?_⟩;exact q _ _ _ (fun b o z nb=>by rw[fq nb];exact d b o z nb) ft
 . have I:n % 9<8:=by
    rcases Int.lt_or_eq_of_le (show n % 9<=8 by lia) with z|z
    . exact z
    . rw[z] at hc;exact absurd hc (by decide +kernel)
   refine⟨_,rfl,(show 2<=sizeLine by decide),fun p hp=>?_⟩;obtain⟨y,z0,e,k2⟩:=gr hp (.lst [V.int 0,V.int 7]);rw[z0];refine⟨u,p,_,_,rfl,rfl,e _ _ (d _ _ k r),k2,ia (by rw[Ad,g];decide),fun p3 s=>?_⟩;obtain⟨T,z1,l,k3⟩:=gr s (.lst (a.map V.int++[V.int 0,V.int 7]));rw[z1];have M:a.map V.int++[V.int 0,V.int 7]=(a++[0,7]).map V.int:=by rw[Au];rfl
   obtain⟨j,L⟩:∃j:Nat,n % 9=(j:Int):=⟨(n % 9).toNat,by lia⟩
   have m:j<(a++[0,7]).length:=by rw[Aj,g];show j<6+2;lia
   refine⟨_,rfl,p3,_,_,.int (a++[0,7])[j],rfl,rfl,SqL.of k3,?_,?_⟩
   . rw[L,M];exact jg (by rw[Am,Ag m];rfl)
   . exact q _ _ _ (fun b o z nb=>l _ _ (e _ _ (d b o z nb))) (l _ _ (e _ _ k1))
abbrev ab9:Stmt:=top 45
def CellsU(H:Hp)(hp:List (Int×Addr)):Prop:=∀p∈hp,∃u v:Int,H p.2=some (.tup [.int u,.int v])
theorem CellsU.same(h:CellsU H hp)(e:Same H H'):CellsU H' hp:=fun p z=>by obtain⟨u,v,y⟩:=h p z;exact⟨u,v,e _ _ y⟩
theorem CellsU.keep(h:CellsU H hp)(e:∀b vs,H b=some (.tup vs)->H' b=some (.tup vs)):CellsU H' hp:=fun p z=>by obtain⟨u,v,y⟩:=h p z;exact⟨u,v,e _ _ y⟩
def putH(hp:List (Int×Addr))(x:Int)(r:Addr):List (Int×Addr):=if x∈hp.map (·.1) then hp.map (fun p=>if p.1=x then (p.1,r) else p) else hp++[(x,r)]
theorem af1(hp:List (Int×Addr))(x:Int)(r:Addr):putK (hK hp) (Sum.inl x) (.ref r)=hK (putH hp x r):=by
 unfold putH;by_cases h:x∈hp.map (·.1)
 . rw[if_pos h];unfold putK hK;have e:((hp.map fun p=>((Sum.inl p.1:Key),V.ref p.2)).any fun kv=>decide (kv.1=(Sum.inl x:Key)))=true:=by
    obtain⟨p,a,rfl⟩:=Az.mp h;exact List.any_eq_true.mpr ⟨_,Az.mpr ⟨p,a,rfl⟩,decide_eq_true rfl⟩
   rw[e,if_pos rfl,Bd,Bd];refine BE fun p _=>?_;show (if (Sum.inl p.1:Key)=Sum.inl x then _ else _)=((Sum.inl (if p.1=x then (p.1,r) else p).1:Key),V.ref (if p.1=x then (p.1,r) else p).2)
   by_cases e:p.1=x
   . rw[if_pos (by rw[e]),if_pos e]
   . rw[if_neg (fun z=>e (Ed z)),if_neg e]
 . rw[if_neg h];exact ae3 h
theorem a0a:(putH hp x r).map (·.1)=if x∈hp.map (·.1) then hp.map (·.1) else hp.map (·.1)++[x]:=by
 unfold putH;split
 . rw[Bd];refine BE fun p _=>?_;show (if p.1=x then (p.1,r) else p).1=p.1;split<;>rfl
 . rw[Au];rfl
theorem a8r(h:p∈putH hp x r):p∈hp\/p.2=r:=by
 unfold putH at h;split at h
 . obtain⟨q,hq,rfl⟩:=Az.mp h;split
   . exact .inr rfl
   . exact .inl hq
 . rcases Ap.mp h with h|h
   . exact .inl h
   . exact .inr (by rw[Ao.mp h])
theorem a9c:(putH hp x r).length<=hp.length+1:=by
 unfold putH;split
 . rw[Ad];lia
 . rw[Aj,Ba];lia
theorem a4x(h:(hp.map (·.1)).Nodup):((putH hp x r).map (·.1)).Nodup:=by
 rw[a0a];split
 . exact h
 . rename_i hn;exact Cq.mpr ⟨h,Dz _ _,fun y a z hz e=>hn (by rw[<- Ao.mp hz,<- e];exact a)⟩
theorem a9s(h:k∈(putH hp x r).map (·.1)):k∈hp.map (·.1)\/k=x:=by
 rw[a0a] at h;split at h
 . exact .inl h
 . exact (Ap.mp h).imp id Ao.mp
structure HpL(H':Hp)(d sl:Addr)(hp:List (Int×Addr))(ss:List Int):Prop where
 hd:H' d=some (.dK (hK hp))
 hs:H' sl=some (.lst (ss.map V.int))
 ls:ss.length=6
 cu:CellsU H' hp
 nd:(hp.map (·.1)).Nodup
 pos:∀k∈hp.map (·.1),0<k/\k<1000000000000000000000000000000000000000000000000000000000000
 sp:∀s∈ss,0<s/\s<1000000000000000000000000000000000000000000000000000000000000
theorem HpL.same(h:HpL H' d b hp c)(e:Same H' a):HpL a d b hp c:=⟨e _ _ h.hd,e _ _ h.hs,h.ls,h.cu.same e,h.nd,h.pos,h.sp⟩
theorem HpL.x(h:HpL H' d f hp g)(a:H' dl=some (.lst xs))(ne:f≠dl)(e:jq dl H' c):HpL c d f hp g :=
 ⟨e _ _ h.hd (fun z=>by have:=h.hd;rw[z,a] at this;cases this),e _ _ h.hs ne,h.ls,h.cu.keep fun b vs hb=>e _ _ hb (fun z=>by rw[z,a] at hb;cases hb),h.nd,h.pos,h.sp⟩
inductive spHeapL(K:Ac)(vs:List V)(H:Hp)(Q:VK)(E:XK):Prop
 | mk (a:Addr)(ns:List Int)(st:Nat)(h0:vs=[.ref a,.int (st:Int)])(hS:SqL K H a (ns.map V.int))(q:∀t d sl hp ss H',Same H H'->H d=none->H sl=none->H' t=some (.tup [.ref d,.ref sl])->HpL H' d sl hp ss->hp.length<=6->Q (.ref t) H'):spHeapL K vs H Q E
inductive HL(H:Hp)(a d sl:Addr)(st:Nat)(z3 z4 z5:Option V)(i:Nat)(σ:St)(H':Hp):Prop
 | mk (dl:Addr)(n:Int)(hp:List (Int×Addr))(ss:List Int)(z8:Option V)(e:Same H H')(nd:H dl=none)(ne:sl≠dl)(hdl:H' dl=some (.lst [.int n]))(I:HpL H' d sl hp ss)(hl:hp.length<=i)(hσ:σ=[some (.ref a),some (.int (st:Int)),some (.ref dl),z3,z4,z5,some (.ref sl),some (.ref d),z8])
theorem aai(C:Con K mg w)(F:Fun K "_law_heap" "_law_heap" ab9 f fd)(GC:FnOk P w K mg base CX0 1 gC dC ["_law_script","_law_k"] (sn K))(cC:Cal K mg "_law_cell_at" gC dC ["_law_script","_law_k"])(GF:FnOk P w K mg base CX0 2 gF dF ["_law_cell","_law_k"] vn)(cF:Cal K mg "_law_fed" gF dF ["_law_cell","_law_k"])(GD:FnOk P w K mg base CX0 1 gD dD ["_law_digits","_law_many"] mj)(D:Cal K mg "_law_digit" gD dD ["_law_digits","_law_many"])(GV:FnOk P w K mg base CX0 2 gV dV ["_law_digits","_law_spots"] spValue)(cV:Cal K mg "_law_value" gV dV ["_law_digits","_law_spots"]):FnOk P w K mg base CX0 3 f fd ["_law_script","_law_start"] (spHeapL K):=by
 refine F.okA ["_law_script","_law_start","_law_digits","_law_ways","_law_step","_law_base","_law_spots","_law_heap_here","_law_k"] fun a5 A outer s0 H vs Q E hr h nd=>?_;obtain⟨a,ns,st,rfl,hS,q⟩:=h;have aM:=kx hr;have M:=hr.mono (j:=1) (by lia);refine⟨_,fw (gp 2 nd (gk GF hr cF (gw (gk GC M cC (fy (qv 0) (fy (qv 1) ad))) (gs ad))))
  (fw (gp 3 nd (i8 (gw (gk GD M D (fy (qv 2) (gs ad))) (gw (gk GD M D (fy (qv 2) (gs ad))) ad))))
  (fw (yt (i:=4) nd rfl (Or.inr rfl) (i0 K (i8 (gs (gs (jb (gh ij fu (gk GD M D (fy (qv 2) (jb (gh vj fu fu) ad)))) ad)))) (i0 K (qv 3) fu)))
  (fw (yt (i:=5) nd rfl (Or.inr rfl) (i0 K (i8 (gs (gs (jb (gh ij fu (gk GD M D (fy (qv 2) (jb (gh vj fu fu) ad)))) ad)))) (i0 K (qv 3) fu)))
  (fw (ub ["_law_k","_law_step","_law_base"] [4,5] (i:=6) nd rfl (Or.inl rfl) (kd rfl C.range (gs ad)) (fun _ _ _ _=>ni) (fun _ _ _ _=>(gh ij (qv 2) (gh qz (qv 0) (qv 1)))))
  (fw (gp 7 nd tm)
  (fw (jw AO rfl (kd rfl C.range (gs ad)) (jc 8 nd) (fw (ie (gi ib (gh jo (qv 8) fu) fu (gn _)) (fz (gp 2 nd (gk GF hr cF (gw (gk GC M cC (fy (qv 0) (jb (gh ij (gh ij (qv 1) fu) (gh lq (qv 8) fu)) ad))) (jb (gh ij fu (qv 8)) ad))))) iq)
  (fw (ie (gi ib (gk GD M D (fy (qv 2) (gs ad))) fu (gn _)) (fz (pi (gh ij fu (gk GD M D (fy (qv 2) (jb (gh a6y (gh vj fu fu) fu) ad)))) (yx (qv 6) (qv 8) ui))) iq)
  (fz (ie (gi wp (gk GD M D (fy (qv 2) (gs ad))) fu (gn _)) (fz (jy aM (qv 7) (i0 K (qv 6) (qv 8)) (je (gw (gk GV hr cV (fy (qv 2) (fy (qv 6) ad))) (gw (gk GV hr cV (fy (qv 2) (fy (qv 6) ad))) ad))))) iq)))))
  (fz (gu (je (fy (qv 7) (fy (qv 6) ad))))))))))),?_⟩
 have c:(0:Int)<10 ^ (50:Int).toNat/\(10:Int) ^ (50:Int).toNat<=10 ^ 60:=by decide +kernel
 have L:(0:Int)<10 ^ (59:Int).toNat - 1/\(10:Int) ^ (59:Int).toNat - 1<=10 ^ 60:=by decide +kernel
 have h3:∀n:Int,∃j:Nat,n % 3=(j:Int)/\j<3:=fun n=>⟨(n % 3).toNat,by have:=B8 n (show (3:Int)≠0 by decide);lia,by have:=Bz n (show (0:Int)<3 by decide);lia⟩
 refine g8 (a:=tAsg _ _) fun A1 az _ _=>?_;refine⟨_,rfl,_,rfl,a,ns,st,rfl,hS,_,1,rfl,fun dl T=>?_⟩;have D1:DI H dl (upd H dl (.lst [.int (fedF (kn ns st) 1)])):=⟨gc T _,_,ft⟩
 generalize upd H dl (.lst [.int (fedF (kn ns st) 1)])=H1 at D1 |-;refine az _ _ ?_;clear az;refine g8 (a:=tAsg _ _) fun A2 aB _ _=>?_;obtain⟨e1,n1,k1⟩:=id D1;obtain⟨j1,aX,aI⟩:=h3 n1;refine⟨_,rfl,dl,n1,3,rfl,k1,(by decide),(by decide),?_⟩;rw[aX];have D2:=D1.put T (n1 / 3);generalize upd H1 dl (.lst [.int (n1 / 3)])=H2 at D2 |-;obtain⟨e2,n2,k2⟩:=id D2;obtain⟨j2,aN,aK⟩:=h3 n2;refine⟨_,rfl,dl,n2,3,rfl,k2,(by decide),(by decide),?_⟩;rw[aN];have D3:=D2.put T (n2 / 3);generalize upd H2 dl (.lst [.int (n2 / 3)])=H3 at D3 |-;refine⟨(show 2<=sizeLine by decide),fun X ai=>?_⟩;have D4:=D3.same (gc ai (.lst [.int (j1:Int),.int (j2:Int)]));have k4:(upd H3 X (.lst [.int (j1:Int),.int (j2:Int)])) X=some (.lst [.int (j1:Int),.int (j2:Int)]):=ft;generalize upd H3 X (.lst [.int (j1:Int),.int (j2:Int)])=H4 at D4 k4 |-;have aA:X≠dl:=fun z=>by obtain⟨_,n,k⟩:=D3;rw[z,k] at ai;cases ai
 refine aB _ _ ?_;clear aB;refine g8 (a:=tAsg _ _) fun A3 aJ _ _=>?_;obtain⟨e4,n4,d4⟩:=id D4;refine⟨_,rfl,_,_,rfl,rfl,(show CPow 10 50 from⟨by decide,by decide,by decide⟩),dl,n4,_,rfl,d4,c.1,c.2,_,_,rfl,rfl,(show 3<=sizeLine by decide),fun l1 af=>?_⟩;have g1:=B8 n4 (Ex c.1);dsimp only at af |-;have aU:n4 % 10 ^ (50:Int).toNat<100000000000000000000000000000000000000000000000000:=Bz n4 c.1;generalize n4 % 10 ^ (50:Int).toNat=r1 at g1 aU;have aH:=D4.put T (n4 / 10 ^ (50:Int).toNat);have ay:(upd H4 dl (.lst [.int (n4 / 10 ^ (50:Int).toNat)])) X=some (.lst [.int (j1:Int),.int (j2:Int)]):=by rw[fq aA];exact k4
 generalize upd H4 dl (.lst [.int (n4 / 10 ^ (50:Int).toNat)])=G1 at aH ay af |-;obtain⟨H5,z0,s1,an⟩:=gr af (.lst [V.int 1,V.int 2,V.int (1+r1)]);rw[z0];have D5:=aH.same s1;have ac:=s1 _ _ ay;obtain⟨S,aP,a4⟩:∃v:Int,atI [V.int 1,V.int 2,V.int (1+r1)] (j1:Int)=some (.int v)/\0<v/\v<=100000000000000000000000000000000000000000000000000:=by
  match j1,aI with
  | 0,_=>exact⟨1,rfl,by decide,by decide⟩
  | 1,_=>exact⟨2,rfl,by decide,by decide⟩
  | 2,_=>exact⟨1+r1,rfl,by lia,by lia⟩
 refine⟨_,rfl,X,_,0,.int (j1:Int),rfl,rfl,SqL.of ac,rfl,l1,_,_,.int S,rfl,rfl,SqL.of an,aP,?_⟩;refine aJ _ _ ?_;clear aJ;refine g8 (a:=tAsg _ _) fun A4 aD _ _=>?_;obtain⟨e5,n5,d5⟩:=id D5;refine⟨_,rfl,_,_,rfl,rfl,(show CPow 10 50 from⟨by decide,by decide,by decide⟩),dl,n5,_,rfl,d5,c.1,c.2,_,_,rfl,rfl,(show 3<=sizeLine by decide),fun l2 ag=>?_⟩;have g2:=B8 n5 (Ex c.1);dsimp only at ag |-;have aR:n5 % 10 ^ (50:Int).toNat<100000000000000000000000000000000000000000000000000:=Bz n5 c.1;generalize n5 % 10 ^ (50:Int).toNat=r2 at g2 aR;have al:=D5.put T (n5 / 10 ^ (50:Int).toNat);have aC:(upd H5 dl (.lst [.int (n5 / 10 ^ (50:Int).toNat)])) X=some (.lst [.int (j1:Int),.int (j2:Int)]):=by rw[fq aA];exact ac
 generalize upd H5 dl (.lst [.int (n5 / 10 ^ (50:Int).toNat)])=G2 at al aC ag |-;obtain⟨H6,z1,s2,aj⟩:=gr ag (.lst [V.int 1,V.int 5,V.int (1+r2)]);rw[z1];have D6:=al.same s2;have aF:=s2 _ _ aC;obtain⟨Y,a0,a3⟩:∃v:Int,atI [V.int 1,V.int 5,V.int (1+r2)] (j2:Int)=some (.int v)/\0<v/\v<=100000000000000000000000000000000000000000000000000:=by
  match j2,aK with
  | 0,_=>exact⟨1,rfl,by decide,by decide⟩
  | 1,_=>exact⟨5,rfl,by decide,by decide⟩
  | 2,_=>exact⟨1+r2,rfl,by lia,by lia⟩
 refine⟨_,rfl,X,_,1,.int (j2:Int),rfl,rfl,SqL.of aF,rfl,l2,_,_,.int Y,rfl,rfl,SqL.of aj,a0,?_⟩;refine aD _ _ ?_;clear aD;refine g8 (a:=tAsg _ _) fun A5 ap _ _=>?_;refine⟨_,rfl,(by decide),(by decide),?_⟩;refine acd (nums 0 (6:Int).toNat) ((Ce 6).map fun (k:Nat)=>V.int (Y+(0+(k:Int))*S)) a21 trivial (by decide) (by rfl) (fun i x y hx hy H2 e2 Q' q'=>?_) fun J H7 ah e7 aL=>?_
 . unfold nums at hx;rw[show (6:Int).toNat=6 from rfl,Am] at hx;rw[Am] at hy;cases hi:(Ce 6)[i]? with
   | none=>rw[hi] at hx;cases hx
   | some k =>
    rw[hi] at hx hy;have hk:k<6:=Dq.mp (AE hi);have a1:x=.int (0+(k:Int)):=(A0 hx).symm;have aY:y=.int (Y+(0+(k:Int))*S):=(A0 hy).symm;subst a1 aY;exact⟨_,rfl,_,rfl,_,rfl,_,_,rfl,rfl,.inl ⟨by lia,by lia⟩,_,_,rfl,rfl,q' H2 (Same.refl _)⟩
 have ab:H7 J=some (.lst (((Ce 6).map fun (k:Nat)=>Y+(0+(k:Int))*S).map V.int)):=by rw[aL,Bd];rfl
 have av:∀s∈(Ce 6).map fun (k:Nat)=>Y+(0+(k:Int))*S,0<s/\s<1000000000000000000000000000000000000000000000000000000000000:=fun s hs=>by
  obtain⟨k,hk,rfl⟩:=Az.mp hs;have a6:k<6:=Dq.mp hk;have up:(0+(k:Int))*S<=5*S:=Int.mul_le_mul_of_nonneg_right (by lia) (by lia);have:0<=(0+(k:Int))*S:=Int.mul_nonneg (by lia) (by lia)
  lia
 have aa:((Ce 6).map fun (k:Nat)=>Y+(0+(k:Int))*S).length=6:=by rw[Ad,EH]
 generalize (Ce 6).map (fun (k:Nat)=>Y+(0+(k:Int))*S)=l at ab av aa;have D7:=D6.same e7;have am:H J=none:=D6.1.free ah;have g:J≠dl:=fun z=>by obtain⟨_,n,k⟩:=D6;rw[z,k] at ah;cases ah
 refine ap _ _ ?_;clear ap;refine g8 (a:=tAsg _ _) fun A6 aE _ _=>?_;intro d hd;have D8:DI H dl (upd H7 d (.dK [])):=D7.same (gc hd _);have I8:HpL (upd H7 d (.dK [])) d J [] l:=⟨ft,gc hd _ _ _ ab,aa,(fun p hp=>by cases hp),.nil,(fun k hk=>by cases hk),av⟩
 have aq:H d=none:=D7.1.free hd;generalize upd H7 d (.dK [])=H8 at D8 I8 |-;refine aE _ _ ?_;clear aE;refine g8 (a:=tFor _ _ _) fun F1 aT _ _=>?_;obtain⟨e8,n8,d8⟩:=id D8;refine⟨_,rfl,by decide,by decide,?_⟩;refine ku (lo:=0) (n:=(6:Int).toNat) (HL H a d J st (some (.ref X)) (some (.int S)) (some (.int Y))) ⟨dl,n8,[],l,none,e8,T,g,d8,I8,AH _,rfl⟩ ?_ ?_
 . rintro i σ I hi ⟨dl,m,hp,l,z8,Z,N,g,d9,I9,aG,rfl⟩;have aW:i<6:=hi;refine g8 (a:=tIfS _ _ _) fun B1 aV _ _=>?_;have t1:∀(dl:Addr) (m:Int) (I:Hp),Same H I->H dl=none->J≠dl->I dl=some (.lst [.int m])->HpL I d J hp l->B1.nx [some (.ref a),some (.int (st:Int)),some (.ref dl),some (.ref X),some (.int S),some (.int Y),some (.ref J),some (.ref d),some (.int (0+(i:Int)))] I:=fun dl m I Z N g d9 I9=>aV _ _ (by
    have W:∀{G:Hp} {o:HO},Same H G->Same H (upd G dl o):=fun {G o} e b u z=>by rw[fq (g6 z N)];exact e _ _ z
    have ao:∀{G:Hp} {o:HO},Same H G->Same H (upd G J o):=fun {G o} e b u z=>by rw[fq (g6 z am)];exact e _ _ z
    have ae:∀{G:Hp} {o:HO},Same H G->Same H (upd G d o):=fun {G o} e b u z=>by rw[fq (g6 z aq)];exact e _ _ z
    refine g8 (a:=tIfS _ _ _) fun B2 aQ _ _=>?_;have t2:∀(m:Int) (l:List Int) (I:Hp),Same H I->I dl=some (.lst [.int m])->HpL I d J hp l->B2.nx [some (.ref a),some (.int (st:Int)),some (.ref dl),some (.ref X),some (.int S),some (.int Y),some (.ref J),some (.ref d),some (.int (0+(i:Int)))] I:=fun m l I Z d9 I9=>aQ _ _ (by
     refine⟨_,rfl,dl,m,3,rfl,d9,(by decide),(by decide),_,_,rfl,rfl,_,rfl,?_⟩;have eA:=W (o:=.lst [.int (m / 3)]) Z;have dA:(upd I dl (.lst [.int (m / 3)])) dl=some (.lst [.int (m / 3)]):=ft;have IA:HpL (upd I dl (.lst [.int (m / 3)])) d J hp l:=I9.x d9 g fun b o z nb=>by rw[fq nb];exact z
     generalize upd I dl (.lst [.int (m / 3)])=HA at eA dA IA |-;refine iteB (fun _=>?_) (fun _=>⟨dl,_,hp,l,_,eA,N,g,dA,IA,by lia,rfl⟩);refine⟨_,rfl,_,rfl,.mk dl J _ l rfl dA IA.hs IA.ls fun v1 m1 HB sB dB=>?_⟩;have O:=IA.x dA g sB;have eB:Same H HB:=fun b o z=>sB b o (eA _ _ z) (g6 z N);refine⟨_,rfl,_,rfl,.mk dl J _ l rfl dB O.hs O.ls fun v2 m2 HC sC dC=>?_⟩;have IC:=O.x dB g sC;have eC:Same H HC:=fun b o z=>sC b o (eB _ _ z) (g6 z N);refine⟨(show 2<=sizeLine by decide),fun r hr=>?_⟩;obtain⟨HD,z2,sD,kr⟩:=gr hr (.tup [V.int v1,V.int v2]);rw[z2];have U:=IC.same sD;have eD:=eC.trans sD;have ar:=sD _ _ dC;have ak:i<l.length:=by rw[IC.ls];exact aW
     have au:atI (l.map V.int) (0+(i:Int))=some (.int l[i]):=by
      rw[Ez];exact jg (by rw[Am,Ag ak];rfl)
     have ax:0<l[i]/\l[i]<1000000000000000000000000000000000000000000000000000000000000:=IC.sp _ (C0 ak);generalize l[i]=s at au ax;refine⟨_,rfl,_,rfl,_,rfl,J,_,_,.int s,rfl,rfl,SqL.of U.hs,au,d,_,rfl,DPut.k (k:=Sum.inl s) U.hd (j6 (by unfold hK;rw[Ad];lia)),?_⟩;rw[af1];have nt:∀{b:Addr} {vs:List V},HD b=some (.tup vs)->b≠d:=fun hb z=>by rw[z,U.hd] at hb;cases hb
     have aw:∀{b:Addr} {vs:List V},HD b=some (.lst vs)->b≠d:=fun hb z=>by rw[z,U.hd] at hb;cases hb
     refine⟨dl,m2,putH hp s r,l,_,ae eD,N,g,by rw[fq (aw ar)];exact ar,⟨ft,by rw[fq (aw U.hs)];exact U.hs,U.ls,fun p' aS=>?_,a4x U.nd,fun k hk=>(a9s hk).elim (U.pos k) fun z=>by rw[z];exact ax,U.sp⟩,Ax a9c (by lia),rfl⟩;rcases a8r aS with z|z
     . obtain⟨u,v,y⟩:=U.cu p' z;exact⟨u,v,by rw[fq (nt y)];exact y⟩
     . rw[z];exact⟨v1,v2,by rw[fq (nt kr)];exact kr⟩)
    refine⟨_,rfl,dl,m,8,rfl,d9,(by decide),(by decide),rfl,_,rfl,?_⟩;have eA:=W (o:=.lst [.int (m / 8)]) Z;have dA:(upd I dl (.lst [.int (m / 8)])) dl=some (.lst [.int (m / 8)]):=ft;have IA:HpL (upd I dl (.lst [.int (m / 8)])) d J hp l:=I9.x d9 g fun b o z nb=>by rw[fq nb];exact z
    generalize upd I dl (.lst [.int (m / 8)])=HA at eA dA IA |-;refine iteB (fun _=>?_) (fun _=>t2 _ l HA eA dA IA);refine⟨_,rfl,_,_,rfl,rfl,(show CPow 10 59 from⟨by decide,by decide,by decide⟩),_,_,rfl,rfl,dl,_,_,rfl,dA,L.1,L.2,_,_,rfl,rfl,?_⟩;dsimp only;have g9:=B8 (m / 8) (Ex L.1);have a2:m / 8 % (10 ^ (59:Int).toNat - 1)<100000000000000000000000000000000000000000000000000000000000 - 1:=Bz (m / 8) L.1;generalize m / 8 % (10 ^ (59:Int).toNat - 1)=r9 at g9 a2;generalize m / 8 / (10 ^ (59:Int).toNat - 1)=q9;have eB:=W (o:=.lst [.int q9]) eA;have dB:(upd HA dl (.lst [.int q9])) dl=some (.lst [.int q9]):=ft;have O:HpL (upd HA dl (.lst [.int q9])) d J hp l:=IA.x dA g fun b o z nb=>by rw[fq nb];exact z
    generalize upd HA dl (.lst [.int q9])=HB at eB dB O |-;have aO:ixN (l.map V.int).length (0+(i:Int))=some i:=by
     rw[Ad,O.ls,Ez];unfold ixN;rw[if_pos (by lia)];simp;lia
    refine⟨_,rfl,_,rfl,J,_,_,i,rfl,rfl,O.hs,aO,?_⟩;have es:(l.map V.int).set i (.int (1+r9))=(l.set i (1+r9)).map V.int:=by rw[List.map_set]
    rw[es];refine t2 q9 (l.set i (1+r9)) _ (ao eB) (by rw[fq (AL g)];exact dB) ⟨?_,ft,by rw[Js];exact O.ls,O.cu.keep fun b vs hb=>?_,O.nd,O.pos,fun s hs=>?_⟩
    . rw[fq (fun z=>by have:=O.hd;rw[z,O.hs] at this;cases this)];exact O.hd
    . rw[fq (fun z=>by rw[z,O.hs] at hb;cases hb)];exact hb
    . rcases List.mem_or_eq_of_mem_set hs with z|z
      . exact O.sp s z
      . rw[z];lia)
   refine⟨_,rfl,_,_,rfl,rfl,(show (0:Int)<2 by decide),rfl,_,rfl,iteB (fun _=>?_) (fun _=>t1 dl m I Z N g d9 I9)⟩;have e1:(st:Int)+1+(0+(i:Int)) / 2=((st+1+i / 2:Nat):Int):=by lia
   have e2:(2:Int)+(0+(i:Int))=((2+i:Nat):Int):=by lia
   refine⟨_,rfl,_,rfl,_,_,rfl,rfl,_,rfl,_,_,rfl,rfl,(show CDiv _ 2 from⟨by decide,by decide⟩),_,_,rfl,rfl,?_⟩;dsimp only;rw[e1];refine⟨a,ns,st+1+i / 2,rfl,Z.seq hS,_,rfl,_,_,rfl,rfl,?_⟩;dsimp only;rw[e2];refine⟨_,2+i,rfl,fun aZ R=>?_⟩;have sN:=gc R (.lst [.int (fedF (kn ns (st+1+i / 2)) (2+i))]);exact t1 aZ _ _ (Z.trans sN) (Z.free R) (fun z=>by rw[<- z,I9.hs] at R;cases R) ft (I9.same sN)
 rintro σ I ⟨dl,m,hp,l,z8,Z,N,g,d9,I9,aG,rfl⟩;refine aT _ _ ⟨_,rfl,_,rfl,(show 2<=sizeLine by decide),fun t ht=>q t d J hp l _ (Z.trans (gc ht _)) aq am ft (I9.same (gc ht _)) aG⟩
abbrev a7g:Stmt:=top 38
inductive Dd
 | set (x e:Str)
 | read (x y fld:Str)
 | write (y fld e:Str)
 | new (x e f:Str)
 | free (y:Str)
def rowD:Dd->List Str
 | .set x e=>["set",x,e]
 | .read x y fld=>["read",x,y,fld]
 | .write y fld e=>["write",y,fld,e]
 | .new x e f=>["new",x,e,f]
 | .free y=>["free",y]
def yw(x:Str):Prop:=x = "first" \/ x = "second"
def InD(xs:List Str):Dd->Prop
 | .set x e=>x∈xs/\e∈xs++[("nil" : Str)]
 | .read x y fld=>x∈xs/\y∈xs/\yw fld
 | .write y fld e=>y∈xs/\yw fld/\e∈xs++[("nil" : Str)]
 | .new x e f=>x∈xs/\e∈xs++[("nil" : Str)]/\f∈xs++[("nil" : Str)]
 | .free y=>y∈xs
inductive spPlain(vs:List V)(H:Hp)(Q:VK)(E:XK):Prop
 | mk (dl ow ev:Addr)(n:Int)(own xs:List Str)(word:Str)(h0:vs=[.ref dl,.ref ow,.ref ev,.str word])(h1:H dl=some (.lst [.int n]))(h2:H ow=some (.lst (own.map V.str)))(h3:H ev=some (.lst (xs.map V.str)))(h4:own≠[])(h5:∀x∈own,x∈xs)(h6:xs≠[])(h7:xs.length<=100)(h8:own.length<=100)(n1:ow≠dl)(n2:ev≠dl)(hw:word∈([("set" : Str),"read","write","new","free"]:List Str))(q:∀(d:Dd) (n':Int) t H',jq dl H H'->H' dl=some (.lst [.int n'])->H' t=some (.tup ((rowD d).map V.str))->InD xs d->Q (.ref t) H'):spPlain vs H Q E
theorem a7n(n:Int)(h:xs≠[]):∃v,atI xs (n % (xs.length:Int))=some v/\v∈xs:=mq (xs:=xs) rfl (by have:=CL.mpr h;lia)
theorem aa6(C:Con K mg w)(F:Fun K "_law_plain" "_law_plain" a7g f fd)(X:FnOk P w K mg base CX0 1 gD dD ["_law_digits","_law_many"] mj)(g:Cal K mg "_law_digit" gD dD ["_law_digits","_law_many"]):FnOk P w K mg base CX0 2 f fd ["_law_digits","_law_own","_law_every","_law_word"] spPlain:=by
 refine F.okA ["_law_digits","_law_own","_law_every","_law_word","_law_e","_law_x","_law_y","_law_field"] fun au A outer s0 H vs Q E hr h nd=>?_;obtain⟨dl,ow,ev,n,own,xs,word,rfl,h1,h2,h3,h4,h5,h6,h7,h8,n1,n2,hw,q⟩:=h;refine⟨_,fw (gp 4 nd (i0 K (gh ky (qv 2) (i8 (i9 ad))) (gk X hr g (fy (qv 0) (jb (gh ij (ii (lenK (K:=K) rfl) rfl C.len AV (fy (qv 2) ad)) fu) ad)))))
  (fw (gp 5 nd (i0 K (qv 1) (gk X hr g (fy (qv 0) (gw (ii (lenK (K:=K) rfl) rfl C.len AV (fy (qv 1) ad)) ad)))))
  (fw (gp 6 nd (i0 K (qv 2) (gk X hr g (fy (qv 0) (gw (ii (lenK (K:=K) rfl) rfl C.len AV (fy (qv 2) ad)) ad)))))
  (fw (gp 7 nd (i0 K (i8 (i9 (i9 ad))) (gk X hr g (fy (qv 0) (gs ad)))))
  (fw (ie (gi ib (qv 3) i7 (gn _)) (fz (gu (je (i9 (fy (qv 5) (fy (qv 4) ad)))))) iq)
  (fw (ie (gi ib (qv 3) i7 (gn _)) (fz (gu (je (i9 (fy (qv 5) (fy (qv 6) (fy (qv 7) ad))))))) iq)
  (fw (ie (gi ib (qv 3) i7 (gn _)) (fz (gu (je (i9 (fy (qv 6) (fy (qv 7) (fy (qv 4) ad))))))) iq)
  (fw (ie (gi ib (qv 3) i7 (gn _)) (fz (gu (je (i9 (fy (qv 5) (fy (qv 4) (gj (i0 K (gh ky (qv 2) (i8 (i9 ad))) (gk X hr g (fy (qv 0) (jb (gh ij (ii (lenK (K:=K) rfl) rfl C.len AV (fy (qv 2) ad)) fu) ad)))) ad))))))) iq)
  (fz (gu (je (i9 (fy (qv 6) ad)))))))))))),?_⟩
 have em:xs.map V.str++[V.str "nil"]=(xs++[("nil" : Str)]).map V.str:=by rw[Au];rfl
 have al:(xs++[("nil" : Str)]).map V.str≠[]:=by simp
 have aj:(((xs++[("nil" : Str)]).map V.str).length:Int)=(xs.length:Int)+1:=by rw[Ad,Aj];rfl
 have ar:0<xs.length:=CL.mpr h6;have s:∀(k:Hp) (n1:Int) (σ:St) (J:VK),σ[0]? = some (some (.ref dl))->σ[2]? = some (some (.ref ev))->jq dl H k->k dl=some (.lst [.int n1])->(∀e n2 u,e∈xs++[("nil" : Str)]->jq dl H u->u dl=some (.lst [.int n2])->J (.str e) u)->tOp (rIxL K) (tOp rCat (tVar 2) (tLst (ip (tC (.str "nil")) tNil))) (za mj [] E0 (ip (tVar 0) (ip (tOp (rI0 fun i j=>.int (i+j)) (tCB (fun xs H Q=>∃p ys,xs=[V.ref p]/\(SqL K H p ys\/SqT K H p ys)/\Q (.int ys.length) H) (ip (tVar 2) tNil)) (tC (.int 1))) tNil))) σ k J:=fun k m σ J s0 s2 L U q'=>by
  have af:=L _ _ h3 n2;refine⟨_,s2,(show 1<=sizeLine by decide),fun p1 ai=>?_⟩;obtain⟨H3,z0,s3,k3⟩:=gr ai (.lst [V.str "nil"]);rw[z0];refine⟨ev,p1,_,_,rfl,rfl,s3 _ _ af,k3,ia (by rw[Ad];show _+1<=1000;lia),fun p2 G=>?_⟩;rw[em];obtain⟨H4,z1,S,k4⟩:=gr G (.lst ((xs++[("nil" : Str)]).map V.str));rw[z1];have e4:=s3.trans S;have d4:=e4 _ _ U;have np:p2≠dl:=fun z=>by
   have h1:=s3 _ _ U;rw[z,h1] at G;cases G
  refine⟨_,s0,_,s2,ev,_,rfl,.inl (SqL.of (e4 _ _ af)),_,_,rfl,rfl,dl,m,_,rfl,d4,(by rw[Ad];lia),(by rw[Ad];exact Fk (show (xs.length:Int)+1<=1000 by lia) (by decide)),?_⟩;obtain⟨v,hv,hm⟩:=a7n m al;obtain⟨e,O,rfl⟩:=Az.mp hm;rw[aj] at hv;rw[Ad];exact⟨p2,_,_,.str e,rfl,rfl,SqL.of (by rw[fq np];exact k4),hv,q' e _ _ O (fun b o z nb=>by rw[fq nb];exact e4 _ _ (L b o z nb)) ft⟩
 have r:∀(k:Hp) (n1:Int) (σ:St) (J:VK) (i:Nat) (l:Addr) (ys:List Str),σ[0]? = some (some (.ref dl))->σ[i]? = some (some (.ref l))->l≠dl->jq dl H k->k dl=some (.lst [.int n1])->H l=some (.lst (ys.map V.str))->ys≠[]->(ys.length:Int)<=10 ^ 60->(∀e n2 u,e∈ys->jq dl H u->u dl=some (.lst [.int n2])->J (.str e) u)->tOp (rIxL K) (tVar i) (za mj [] E0 (ip (tVar 0) (ip (tCB (fun xs H Q=>∃p ys,xs=[V.ref p]/\(SqL K H p ys\/SqT K H p ys)/\Q (.int ys.length) H) (ip (tVar i) tNil)) tNil))) σ k J:=fun k m σ J i l ys s0 si nl L U hl T ah q'=>by
  have aa:=L _ _ hl nl;have av:=CL.mpr T;obtain⟨v,hv,hm⟩:=a7n (xs:=ys.map V.str) m (by simpa using T);obtain⟨e,O,rfl⟩:=Az.mp hm;refine⟨_,si,_,s0,_,si,l,_,rfl,.inl (SqL.of aa),dl,m,_,rfl,U,(by rw[Ad];lia),(by rw[Ad];exact ah),?_⟩;exact⟨l,_,_,.str e,rfl,rfl,SqL.of (by rw[fq nl];exact aa),hv,q' e _ _ O (fun b o z nb=>by rw[fq nb];exact L b o z nb) ft⟩
 have ak:(xs.length:Int)<=10 ^ 60:=Fk (show (xs.length:Int)<=1000 by lia) (by decide);have aq:(own.length:Int)<=10 ^ 60:=Fk (show (own.length:Int)<=1000 by lia) (by decide);refine g8 (a:=tAsg _ _) fun A1 ab _ _=>?_;refine s H n _ _ rfl rfl (fun b o z nb=>z) h1 fun e m1 k O L U=>?_;refine ab _ _ ?_;clear ab;refine g8 (a:=tAsg _ _) fun A2 ac _ _=>?_;refine r k m1 _ _ 1 ow own rfl rfl n1 L U h2 h4 aq fun x m2 u hx e2 d2=>?_;refine ac _ _ ?_;clear ac;refine g8 (a:=tAsg _ _) fun A3 ag _ _=>?_;refine r u m2 _ _ 2 ev xs rfl rfl n2 e2 d2 h3 h6 ak fun y R H3 T e3 d3=>?_;refine ag _ _ ?_;clear ag;refine g8 (a:=tAsg _ _) fun A4 ae _ _=>?_;refine⟨(show 2<=sizeLine by decide),fun l hl=>?_⟩;obtain⟨H4,z2,S,k4⟩:=gr hl (.lst [V.str "first",V.str "second"]);rw[z2];have an:l≠dl:=fun z=>by rw[z,d3] at hl;cases hl
 obtain⟨fv,ao,Z⟩:=mq (xs:=[V.str "first",V.str "second"]) (m:=2) (i:=R) rfl (by decide);obtain⟨fld,rfl,D⟩:∃fld:Str,fv=.str fld/\yw fld:=by
  simp only[Ah,Ay,or_false] at Z;rcases Z with rfl|rfl
  . exact⟨_,rfl,.inl rfl⟩
  . exact⟨_,rfl,.inr rfl⟩
 refine⟨_,rfl,dl,R,2,rfl,S _ _ d3,(by decide),(by decide),l,_,_,.str fld,rfl,rfl,SqL.of (by rw[fq an];exact k4),ao,?_⟩;refine ae _ _ ?_;clear ae;have W:jq dl H (upd H4 dl (.lst [.int (R / 2)])):=fun b o z nb=>by rw[fq nb];exact S _ _ (e3 b o z nb)
 have M:(upd H4 dl (.lst [.int (R / 2)])) dl=some (.lst [.int (R / 2)]):=ft;generalize upd H4 dl (.lst [.int (R / 2)])=H5 at W M |-;generalize R / 2=Y at M;have N:=h5 x hx;have mk:∀(d:Dd) (I:Hp) (m6:Int),jq dl H I->I dl=some (.lst [.int m6])->InD xs d->∀t,I t=none->Q (.ref t) (upd I t (.tup ((rowD d).map V.str))):=fun d I m6 e6 d6 ap t ht=>q d m6 t _ (fun b o z nb=>gc ht _ _ _ (e6 b o z nb)) (gc ht _ _ _ d6) ft ap;simp only[Ah,Ay,or_false] at hw;have no:∀{b:Bool} {A B:Prop},b=false->B->(if b=true then A else B):=fun hb h=>by rw[hb,if_neg Ai];exact h
 rcases hw with rfl|rfl|rfl|rfl|rfl
 . exact⟨_,rfl,rfl,_,rfl,iteB (fun _=>⟨_,rfl,_,rfl,(show 3<=sizeLine by decide),mk (.set x e) H5 Y W M ⟨N,O⟩⟩) (fun c=>absurd c (by decide +kernel))⟩
 . refine⟨_,rfl,rfl,_,rfl,no (by decide +kernel) ?_⟩;exact⟨_,rfl,rfl,_,rfl,iteB (fun _=>⟨_,rfl,_,rfl,_,rfl,(show 4<=sizeLine by decide),mk (.read x y fld) H5 Y W M ⟨N,T,D⟩⟩) (fun c=>absurd c (by decide +kernel))⟩
 . refine⟨_,rfl,rfl,_,rfl,no (by decide +kernel) ?_⟩;refine⟨_,rfl,rfl,_,rfl,no (by decide +kernel) ?_⟩;exact⟨_,rfl,rfl,_,rfl,iteB (fun _=>⟨_,rfl,_,rfl,_,rfl,(show 4<=sizeLine by decide),mk (.write y fld e) H5 Y W M ⟨T,D,O⟩⟩) (fun c=>absurd c (by decide +kernel))⟩
 . refine⟨_,rfl,rfl,_,rfl,no (by decide +kernel) ?_⟩;refine⟨_,rfl,rfl,_,rfl,no (by decide +kernel) ?_⟩;refine⟨_,rfl,rfl,_,rfl,no (by decide +kernel) ?_⟩;refine⟨_,rfl,rfl,_,rfl,iteB (fun _=>?_) (fun c=>absurd c (by decide +kernel))⟩;refine⟨_,rfl,_,rfl,s H5 Y _ _ rfl rfl W M fun e' m6 I am e6 d6=>?_⟩;exact⟨(show 4<=sizeLine by decide),mk (.new x e e') I m6 e6 d6 ⟨N,O,am⟩⟩
 . refine⟨_,rfl,rfl,_,rfl,no (by decide +kernel) ?_⟩;refine⟨_,rfl,rfl,_,rfl,no (by decide +kernel) ?_⟩;refine⟨_,rfl,rfl,_,rfl,no (by decide +kernel) ?_⟩;refine⟨_,rfl,rfl,_,rfl,no (by decide +kernel) ?_⟩;exact⟨_,rfl,(show 2<=sizeLine by decide),mk (.free y) H5 Y W M T⟩
end K56
namespace L2
open PySem PySem.Spec
theorem acr:JSeq (Itk a od kvs) (fun H=>H a=some (.frz od (.dK kvs))) (kvs.map fun kv=>kV kv.1) where
 go:=fun i H h hi=>⟨h,by rw[Ad] at hi;exact hi⟩
 stop:=fun i H h hi=>⟨h,by rw[Ad] at hi;exact hi⟩
 yld:=fun i H x H' _ h y=>y
 stay:=fun H H' h e=>e _ _ h
inductive rSortS(K:Ac)(vs:List V)(H:Hp)(Q:VK):Prop
 | mk (a:Addr)(ss:List Str)(h0:vs=[.ref a])(h1:SqL K H a (ss.map V.str))(h2:ss.length<64)(q:∀p zs,H p=none->zs.Perm ss->Ea zs=true->Q (.ref p) (upd H p (.lst (zs.map V.str)))):rSortS K vs H Q
theorem a5o{K:Ac}(hK:X.K=K):jz X (.builtin "sorted") (rSortS K):=by
 subst hK;intro b s σ H vs us Q I r h;obtain⟨a,c,h0,e,d,q⟩:=h;exact xx b s σ H vs us Q I r ⟨a,c,h0,e,d,q⟩
end L2
namespace K56
open PySem PySem.Spec L2 Mir
abbrev a3z:Stmt:=top 42
def o0:Dd->List Str
 | .set x e=>[x,e]
 | .read x y _=>[x,y]
 | .write y _ e=>[y,e]
 | .new x e f=>[x,e,f]
 | .free y=>[y]
theorem abv:(("set" : Str) ≠ "read" /\ ("write" : Str) ≠ "read" /\ ("new" : Str) ≠ "read" /\ ("free" : Str) ≠ "read")/\(("set" : Str) ≠ "write" /\ ("new" : Str) ≠ "write" /\ ("free" : Str) ≠ "write"):=by decide +kernel
inductive spSaidBy(K:Ac)(vs:List V)(H:Hp)(Q:VK)(E:XK):Prop
 | mk (t:Addr)(d:Dd)(h0:vs=[.ref t])(h1:H t=some (.tup ((rowD d).map V.str)))(q:∀r H',Same H H'->SqT K H' r ((o0 d).map V.str)->Q (.ref r) H'):spSaidBy K vs H Q E
theorem acq(S:List Str):(bK S).map (fun kv=>kV kv.1)=S.map V.str:=by unfold bK;rw[Bd];rfl
theorem yy(h:S.Nodup):(addL S x).Nodup:=by
 unfold addL;split
 . exact h
 . rename_i hn;exact Cq.mpr ⟨h,Dz _ _,fun y a z hz e=>hn (by rw[<- Ao.mp hz,<- e];exact a)⟩
theorem a83(C:Con K mg w)(F:Fun K "_law_said_by" "_law_said_by" a3z f fd):FnOk P w K mg base CX0 1 f fd ["_law_deed"] (spSaidBy K):=by
 refine F.okA ["_law_deed"] fun u A outer D H vs Q E z h nd=>?_;obtain⟨t,d,rfl,b,q⟩:=h;refine⟨_,fw (ie (gi ib (gz K (qv 0) fu) i7 (gn _)) (fz (gu (j8 (xv (K:=K) rfl) (qv 0) (j7 fu) (j7 fu)))) iq)
  (fw (ie (gi ib (gz K (qv 0) fu) i7 (gn _)) (fz (gu (je (gj (gz K (qv 0) fu) (gj (gz K (qv 0) fu) ad))))) iq)
  (fz (gu (j8 (xv (K:=K) rfl) (qv 0) (j7 fu) jn)))),?_⟩
 obtain⟨⟨o,s,j,m⟩,v,l,n⟩:=abv;have rest:∀(wd:Str) (us:List V),H t=some (.tup (.str wd::us))->us=(o0 d).map V.str->wd ≠ "write" -> tSeq (tIfS (u5 (tOp rEq (tOp (rIxT K) (tVar 0) (tC (.int 0))) (tC (.str "write")))) (tRet (tTup (ip (tOp (rIxT K) (tVar 0) (tC (.int 1))) (ip (tOp (rIxT K) (tVar 0) (tC (.int 3))) tNil)))) a5f) (tRet (tSl (a0y K) (tVar 0) (a4s (tC (.int 1))) a00)) { nx:=fun x H'=>Q V.non H',rt:=Q } [some (.ref t)] H:=fun wd us ht i k=>by
  refine⟨_,rfl,t,_,0,_,rfl,rfl,SqT.of ht,at0,rfl,_,rfl,iteB (fun c=>absurd (V.str.inj (of_decide_eq_true c)) k) (fun _=>?_)⟩;refine⟨_,rfl,_,rfl,t,_,rfl,SqT.of ht,fun r H' e a=>q r H' e ?_⟩;have p:cutV (V.str wd::us) (some 1) none=us:=a2e _ 1;rw[p,i] at a;exact a
 cases d with
 | read x y fld =>
  refine⟨_,rfl,t,_,0,_,rfl,rfl,SqT.of b,at0,rfl,_,rfl,iteB (fun _=>?_) (fun c=>absurd c (by decide +kernel))⟩;exact⟨_,rfl,_,rfl,_,rfl,t,_,rfl,SqT.of b,fun r H' e a=>q r H' e a⟩
 | write y fld e =>
  refine⟨_,rfl,t,_,0,_,rfl,rfl,SqT.of b,at0,rfl,_,rfl,iteB (fun c=>absurd (V.str.inj (of_decide_eq_true c)) s) (fun _=>?_)⟩;refine⟨_,rfl,t,_,0,_,rfl,rfl,SqT.of b,at0,rfl,_,rfl,iteB (fun _=>?_) (fun c=>absurd c (by decide +kernel))⟩;exact⟨_,rfl,t,_,1,_,rfl,rfl,SqT.of b,rfl,_,rfl,t,_,3,_,rfl,rfl,SqT.of b,rfl,(show 2<=sizeLine by decide),fun r a=>q r _ (gc a _) (SqT.of ft)⟩
 | set x e=>exact⟨_,rfl,t,_,0,_,rfl,rfl,SqT.of b,at0,rfl,_,rfl,iteB (fun c=>absurd (V.str.inj (of_decide_eq_true c)) o) (fun _=>rest "set" _ b rfl v)⟩
 | new x e g=>exact⟨_,rfl,t,_,0,_,rfl,rfl,SqT.of b,at0,rfl,_,rfl,iteB (fun c=>absurd (V.str.inj (of_decide_eq_true c)) j) (fun _=>rest "new" _ b rfl l)⟩
 | free y=>exact⟨_,rfl,t,_,0,_,rfl,rfl,SqT.of b,at0,rfl,_,rfl,iteB (fun c=>absurd (V.str.inj (of_decide_eq_true c)) m) (fun _=>rest "free" _ b rfl n)⟩
theorem wt{l:List α}{x:α}(h:l[i]? = some x):l.take (i+1)=l.take i++[x]:=by rw[JA,h];rfl
abbrev a3f:Stmt:=top 46
theorem memR{F:β->Prop}:∀{l₁:List α}{l₂:List β},Paired (fun _ y=>F y) l₁ l₂->∀{y},y∈l₂->F y
 | _,_,.nil,_,h=>nomatch h
 | _,_,.cons h t,y,hy=>by
  rcases Ah.mp hy with z|z
  . rw[z];exact h
  . exact memR t z
inductive spValues(K:Ac)(vs:List V)(H:Hp)(Q:VK)(E:XK):Prop
 | mk (a tl sl:Addr)(ns ss:List Int)(zs:List Str)(st:Nat)(h0:vs=[.ref a,.int (st:Int),.ref tl,.ref sl])(hS:SqL K H a (ns.map V.int))(h1:H tl=some (.lst (zs.map V.str)))(h2:zs.Nodup)(h3:zs.length<=6)(h4:H sl=some (.lst (ss.map V.int)))(h5:ss.length=6)(q:∀d f H',Same H H'->H d=none->H' d=some (.dK (vK zs f))->Q (.ref d) H'):spValues K vs H Q E
inductive FeedR(G:Hp)(D:Addr)(x y:V)(H:Hp):Prop
 | mk (l:Addr)(n:Int)(h1:y=.ref l)(h2:l≠D)(h3:G l=none)(h4:H l=some (.lst [.int n]))
inductive VL(G:Hp)(a tl sl fl d:Addr)(st:Nat)(zs:List Str)(ys:List V)(i:Nat)(σ:St)(H:Hp):Prop
 | mk (f:Str->Int)(z6:Option V)(e:Same G H)(k:H d=some (.dK (vK (zs.take i) f)))(kf:H fl=some (.lst ys))(hf:∀y∈ys,FeedR G fl .non y H)(hσ:σ=[some (.ref a),some (.int (st:Int)),some (.ref tl),some (.ref sl),some (.ref fl),some (.ref d),z6])
theorem a6g(C:Con K mg w)(F:Fun K "_law_values" "_law_values" a3f f fd)(GC:FnOk P w K mg base CX0 1 gC dC ["_law_script","_law_k"] (sn K))(cC:Cal K mg "_law_cell_at" gC dC ["_law_script","_law_k"])(GF:FnOk P w K mg base CX0 2 gF dF ["_law_cell","_law_k"] vn)(cF:Cal K mg "_law_fed" gF dF ["_law_cell","_law_k"])(GV:FnOk P w K mg base CX0 2 gV dV ["_law_digits","_law_spots"] spValue)(cV:Cal K mg "_law_value" gV dV ["_law_digits","_law_spots"]):FnOk P w K mg base CX0 3 f fd ["_law_script","_law_start","_law_told","_law_spots"] (spValues K):=by
 refine F.okA ["_law_script","_law_start","_law_told","_law_spots","_law_feeds","_law_values_here","_law_k"] fun aj A outer s0 H vs Q E X h nd=>?_;obtain⟨a,tl,Z,ns,ss,zs,st,rfl,hS,Y,h2,h3,h4,h5,q⟩:=h;have aa:=kx X;have ah:=X.mono (j:=1) (by lia);refine⟨_,fw (ub ["_law_j","_law_start","_law_script"] [1,0] (i:=4) nd rfl (Or.inl rfl) (kd rfl C.range (gs ad)) (fun _ _ _ _=>ni) (fun _ _ _ _=>(gk GF X cF (gw (gk GC ah cC (fy (qv 2) (jb (gh ij (qv 1) (qv 0)) ad))) (jb (gh ij fu (qv 0)) ad)))))
  (fw (gp 5 nd tm)
  (fw (jw AO rfl (kd rfl C.range (gw (ii (lenK (K:=K) rfl) rfl C.len AV (fy (qv 2) ad)) ad)) (jc 6 nd) (fz (jy aa (qv 5) (i0 K (qv 2) (qv 6)) (gk GV X cV (gj (i0 K (qv 4) (gh lq (qv 6) fu)) (fy (qv 3) ad))))))
  (fz (gu (qv 5))))),?_⟩
 refine g8 (a:=tAsg _ _) fun A1 S _ _=>?_;refine⟨_,rfl,(by decide),(by decide),?_⟩;refine a1w (nums 0 (3:Int).toNat) (fun _=>true) (fun D x y G=>FeedR H D .non y G) a21 trivial (by decide) (fun D x y G G' ⟨l,n,I,u,e3,e4⟩ s=>⟨l,n,I,u,e3,s _ _ e4 u⟩) (fun x c G e Q' q'=>q' G (Same.refl _)) (fun D x c _ G e af Q' q'=>?_) fun O U ys hfl s1 k1 g=>?_
 . obtain⟨k,hk,rfl⟩:∃k:Nat,k<3/\x=.int (0+(k:Int)):=by
    unfold nums at c;obtain⟨k,hk,rfl⟩:=Az.mp c;exact⟨k,Dq.mp hk,rfl⟩
   have ei:((st:Int)+(0+(k:Int)))=((st+k:Nat):Int):=by lia
   have ej:((11:Int)+(0+(k:Int)))=((11+k:Nat):Int):=by lia
   refine⟨_,rfl,_,rfl,_,rfl,_,_,rfl,rfl,?_⟩;refine⟨a,ns,st+k,congrArg (fun z:Int=>[V.ref a,V.int z]) ei,e.seq hS,_,rfl,_,_,rfl,rfl,?_⟩;refine⟨_,11+k,congrArg (fun z:Int=>[V.int (kn ns (st+k)),V.int z]) ej,fun l hl=>q' _ _ (gc hl _) ⟨l,_,rfl,fun z=>af (by rw[<- z];exact hl),e.free hl,ft⟩⟩
 refine S _ _ ?_;clear S;have ak:ys.length=3:=by
  have:=AB g;rw[<- this];rfl
 have W:∀y∈ys,FeedR H O .non y U:=fun y r=>by
  exact memR g r
 refine g8 (a:=tAsg _ _) fun A2 J _ _=>?_;intro d hd;have s2:=s1.trans (gc hd (.dK []));have k2:(upd U d (.dK [])) d=some (.dK (vK (zs.take 0) fun _=>0)):=ft;have R:(upd U d (.dK [])) O=some (.lst ys):=gc hd _ _ _ k1;have T:∀y∈ys,FeedR H O .non y (upd U d (.dK [])):=fun y r=>by
  obtain⟨l,n,I,u,e3,e4⟩:=W y r;exact⟨l,n,I,u,e3,gc hd _ _ _ e4⟩
 have M:=s1.free hd;generalize upd U d (.dK [])=H2 at s2 k2 R T |-;refine J _ _ ?_;clear J W g k1 hd s1;refine g8 (a:=tFor _ _ _) fun F1 ac _ _=>?_;have ag:((zs.map V.str).length:Nat)=zs.length:=Ad _;refine⟨_,rfl,tl,_,rfl,.inl (SqL.of (s2 _ _ Y)),?_⟩;rw[ag];refine⟨_,rfl,by lia,by lia,?_⟩;refine ku (lo:=0) (n:=(zs.length:Int).toNat) (VL H a tl Z O d st zs ys) ⟨_,none,s2,k2,R,T,rfl⟩ ?_ ?_
 . rintro i σ G hi ⟨f1,z6,e,k,kf,hf,rfl⟩;have ae:i<zs.length:=by lia
   obtain⟨x,c⟩:∃x,zs[i]? = some x:=⟨_,Ag ae⟩
   have hj:i / 2<ys.length:=by lia
   obtain⟨y,r⟩:∃y,ys[i / 2]? = some y:=⟨_,Ag hj⟩
   obtain⟨l,n,rfl,nl,p,kl⟩:=hf y (AE r);have al:Z≠l:=fun z=>by rw[z,p] at h4;cases h4
   have ai:tl≠l:=fun z=>by rw[z,p] at Y;cases Y
   have L:d≠l:=fun z=>by rw[z,kl] at k;cases k
   refine⟨_,rfl,_,rfl,_,_,rfl,rfl,(show CDiv _ 2 from⟨by decide,by decide⟩),O,_,_,.ref l,rfl,rfl,SqL.of kf,?_,_,rfl,?_⟩
   . have u:(0+(i:Int)) / 2=((i / 2:Nat):Int):=by lia
     rw[u];exact jg r
   refine .mk l Z n ss rfl kl (e _ _ h4) h5 fun v n' G1 s k'=>?_;have I:Same H G1:=fun b o hb=>s _ _ (e _ _ hb) (fun z=>by rw[z,p] at hb;cases hb);have N:=s _ _ k L;have m:=s _ _ kf nl.symm;refine⟨_,rfl,_,rfl,_,rfl,tl,_,_,.str x,rfl,rfl,SqL.of (I _ _ Y),?_,d,_,rfl,DPut.k (k:=Sum.inr x) N (j6 (by unfold vK;rw[Ad,AQ];lia)),?_⟩
   . rw[Ez];exact jg (by rw[Am,c];rfl)
   rw[ae9 (fun hm=>?_)]
   . refine⟨upF f1 x v,_,fun b o hb=>?_,by rw[wt c];exact ft,?_,fun y' ab=>?_,rfl⟩
     . rw[fq (fun z=>by rw[z,M] at hb;cases hb)];exact I _ _ hb
     . rw[fq (fun z=>by rw[z,N] at m;cases m)];exact m
     . obtain⟨l2,n2,r1,r2,r3,r4⟩:=hf y' ab;by_cases z:l2=l
       . exact⟨l2,n',r1,r2,r3,by rw[z,fq L.symm];exact k'⟩
       . exact⟨l2,n2,r1,r2,r3,by rw[fq (fun t=>by rw[t,k] at r4;cases r4)];exact s _ _ r4 z⟩
   . have hn:(zs.take i++[x]).Nodup:=by rw[<- wt c];exact h2.sublist (EG _ _)
     exact (List.nodup_append.mp hn).2.2 x hm x (Ao.mpr rfl) rfl
 rintro σ G ⟨f1,z6,e,k,kf,hf,rfl⟩;refine ac _ _ ?_;rw[Bo,BP] at k;exact⟨_,rfl,q d f1 G e M k⟩
structure Ev where
 xs:List Str
 hs:List (Str×Nat×Bool)
def lp(xs:Ev)(r:List Str):Prop:=∃f x y:Str,r=[f,x,y]/\(f = "is" \/ f = "not")/\x∈xs.xs/\y∈xs.xs++[("nil" : Str)]
def DG(xs:Ev):Deed->Prop
 | .plain (.row r)=>∃d:Dd,r=rowD d/\InD xs.xs d
 | .plain (.call x c vs)=>(x = "" \/ x∈xs.xs)/\(∀v∈vs,v∈xs.xs++[("nil" : Str)])/\∃g,(c,vs.length,g)∈xs.hs/\(g=true\/x = "")/\(g=false->x = "")/\(g=true->x∈xs.xs)
 | .cond r _ _=>lp xs r
 | .loop r F P _=>lp xs r/\F=[]/\P=[]
structure Gd(xs:Ev)(ds:List Deed)(n:Nat):Prop where
 len:∀bs,(allL bs ds).length<=n
 ok:∀bs,∀d∈allL bs ds,DG xs d
theorem a1e:∀bs,allL bs []=[]
 | []=>rfl
 | _::_=>rfl
theorem Gd.nil(xs:Ev):Gd xs [] 0:=⟨fun bs=>by rw[a1e];exact Ak _,fun bs d hd=>by rw[a1e] at hd;cases hd⟩
theorem Gd.app(h:Gd xs ds m)(g:Gd xs es n):Gd xs (ds++es) (m+n):=by
 have e:∀bs,allL bs (ds++es)=allL bs ds++allL bs es:=fun bs=>by
  cases bs with
  | nil=>rfl
  | cons b bs=>exact Cd ..
 refine⟨fun bs=>?_,fun bs d hd=>?_⟩
 . rw[e,Aj];exact JB (h.len bs) (g.len bs)
 . rw[e] at hd;rcases Ap.mp hd with z|z
   . exact h.ok bs d z
   . exact g.ok bs d z
theorem Gd.one(hd:DG xs d)(hl:∀bs,((innL d).flatMap (allL bs)).length<=n)(f:∀bs,∀e∈(innL d).flatMap (allL bs),DG xs e):Gd xs [d] (n+1):=by
 refine⟨fun bs=>?_,fun bs e c=>?_⟩
 . cases bs with
   | nil=>exact AH _
   | cons b bs =>
    show ([d].flatMap (allD (allL bs))).length<=n+1;rw[BH];exact Gv (hl bs)
 . cases bs with
   | nil=>cases c
   | cons b bs =>
    have a:e∈[d].flatMap (allD (allL bs)):=c;rw[BH] at a;rcases Ah.mp a with rfl|z
    . exact hd
    . exact f bs e z
theorem Gd.cond(d:lp xs r)(ha:Gd xs a m)(hb:Gd xs b n):Gd xs [.cond r a b] (m+n+1):=by
 refine Gd.one d (fun bs=>?_) (fun bs e f=>?_)
 . show ([a,b].flatMap (allL bs)).length<=_;rw[Cs,BH,Aj];exact JB (ha.len bs) (hb.len bs)
 . have c:e∈[a,b].flatMap (allL bs):=f;rw[Cs,BH] at c;rcases Ap.mp c with z|z
   . exact ha.ok bs e z
   . exact hb.ok bs e z
theorem Gd.loop(c:lp xs r)(ha:Gd xs a m):Gd xs [.loop r [] [] a] (m+1):=by
 refine Gd.one (d:=.loop r [] [] a) ⟨c,rfl,rfl⟩ (fun bs=>?_) (fun bs e f=>?_)
 . show ([a].flatMap (allL bs)).length<=_;rw[BH];exact ha.len bs
 . have b:e∈[a].flatMap (allL bs):=f;rw[BH] at b;exact ha.ok bs e b
theorem Gd.mono(h:Gd xs ds m)(hn:m<=n):Gd xs ds n:=⟨fun bs=>Ax (h.len bs) hn,h.ok⟩
theorem a2l:∀ds:List Deed,(ds.flatMap (allD (allL []))).length=ds.length
 | []=>rfl
 | d::ds=>by
  rw[Cs,Aj,a2l ds,AC];have:allD (allL []) d=[d]:=by
   unfold allD;cases d<;>rfl
  rw[this,Ba];lia
theorem Gd.short(h:Gd xs ds n):ds.length<=n:=by
 have:=h.len [0];have e:(allL [0] ds).length=ds.length:=a2l ds
 lia
def Og(H0:Hp)(L:List Addr):Addr->Prop:=fun c=>c∈L\/∃vs,H0 c=some (.lst vs)
structure Bk where
 ce:Addr
 a:Addr
 b:Addr
 wd:Str
 cd:V
 na:Nat
 nb:Nat
def LsAt(K:Ac)(G H:Hp)(xs:Ev)(m:Nat)(a:Addr)(n:Nat):Prop:=∃(ts:List Addr) (ds:List Deed),H a=some (.lst (ts.map V.ref))/\Paired (DeedX K G (ListX K G (B m))) ts ds/\Gd xs ds n
structure BkAt(K:Ac)(G H:Hp)(xs:Ev)(m:Nat)(c:Bk):Prop where
 hc:H c.ce=some (.lst [.str c.wd,c.cd,.ref c.a,.ref c.b])
 ha:LsAt K G H xs m c.a c.na
 hb:LsAt K G H xs m c.b c.nb
def CdAt(G:Hp)(xs:Ev)(v:V):Prop:=∃(c:Addr) (r:List Str),v=.ref c/\G c=some (.tup (r.map V.str))/\lp xs r
def StkAt(K:Ac)(G H:Hp)(xs:Ev):List Bk->Prop
 | []=>True
 | c::r=>BkAt K G H xs (4 - r.length) c/\(r≠[]->CdAt G xs c.cd)/\StkAt K G H xs r
def opn(cs:List Bk):List Addr:=cs.flatMap fun c=>[c.ce,c.a,c.b]
def cntB(cs:List Bk):Nat:=(cs.map fun c=>c.na+c.nb+1).sum
structure BB(K:Ac)(H0 H:Hp)(xs:Ev)(wa:Addr)(cs:List Bk)(n:Nat):Prop where
 e:Same H0 H
 nd:(wa::opn cs).Nodup
 fr:∀c∈wa::opn cs,H0 c=none
 w:H wa=some (.lst ((cs.map fun c=>V.ref c.ce).reverse))
 st:StkAt K (rm (Og H0 (wa::opn cs)) H) H xs cs
 low:cs.length<=5
 cnt:cntB cs<=n+1
theorem LsAt.same(h:LsAt K G H xs m a n)(e:Same G f)(k:∀o,H a=some o->H' a=some o):LsAt K f H' xs m a n:=by
 obtain⟨ts,ds,d,c,b⟩:=h;exact⟨ts,ds,k _ d,Paired.mapP c fun _ _ z=>z.same e fun _ _ y=>y.same e,b⟩
theorem jk:opn (c::r)=c.ce::c.a::c.b::opn r:=rfl
theorem StkAt.same(e:Same G g):∀{cs:List Bk},StkAt K G H xs cs->(∀a∈opn cs,∀o,H a=some o->H' a=some o)->StkAt K g H' xs cs
 | [],_,_=>trivial
 | c::r,⟨⟨hc,ha,hb⟩,hd,h⟩,k=>by
  rw[jk] at k;refine⟨⟨k _ Af _ hc,ha.same e (k _ (by simp)),hb.same e (k _ (by simp))⟩,fun z=>?_,h.same e fun a ha=>k a (by simp[ha])⟩;obtain⟨c,r,d,b,f⟩:=hd z;exact⟨c,r,d,e _ _ b,f⟩
theorem BB.same(Z:BB K b H xs a cs n)(e:Same H c):BB K b c xs a cs n :=
 ⟨Z.e.trans e,Z.nd,Z.fr,e _ _ Z.w,Z.st.same (jp e) fun _ _ o h=>e _ _ h,Z.low,Z.cnt⟩
theorem BB.mono(Z:BB K b H xs a cs n)(h:n<=m):BB K b H xs a cs m:=⟨Z.e,Z.nd,Z.fr,Z.w,Z.st,Z.low,Ax Z.cnt (Gv h)⟩
theorem BB.last(Z:BB K b H xs a (c::r) n):H a=some (.lst ((r.map fun c=>V.ref c.ce).reverse++[V.ref c.ce])):=by rw[Z.w,Ar,Dk]
theorem BB.hc(Z:BB K H0 H xs wa (c::r) n):H c.ce=some (.lst [.str c.wd,c.cd,.ref c.a,.ref c.b]):=Z.st.1.hc
theorem BB.off(Z:BB K p H xs d (c::r) n):d≠c.ce/\d≠c.a/\d≠c.b/\c.ce≠c.a/\c.ce≠c.b/\c.a≠c.b/\c.ce∉opn r/\c.a∉opn r/\c.b∉opn r/\d∉opn r:=by
 have nd:=Z.nd;rw[jk] at nd;simp only[AU,Ah,not_or] at nd;obtain⟨⟨k,j,i,m⟩,⟨g,l,h⟩,⟨o,f⟩,e,_⟩:=nd;exact⟨k,j,i,g,l,o,h,f,e,m⟩
theorem BB.word(Z:BB K f H xs d (c::r) n)(wd:Str):BB K f (upd H c.ce (.lst [.str wd,c.cd,.ref c.a,.ref c.b])) xs d ({ c with wd:=wd }::r) n:=by
 obtain⟨p,q,t,j,l,v,k,u,s,m⟩:=Z.off;have g:c.ce∈d::opn (c::r):=by rw[jk];simp
 have i:=tq (X:=Og f (d::opn (c::r))) (H:=H) (a:=c.ce) (o:=.lst [.str wd,c.cd,.ref c.a,.ref c.b]) (.inl g);obtain⟨⟨hc,ha,hb⟩,hd,hs⟩:=Z.st;refine⟨fun x o h=>by rw[fq (g6 h (Z.fr _ g))];exact Z.e _ _ h,Z.nd,Z.fr,by rw[fq p];exact Z.w,?_,Z.low,Z.cnt⟩;show StkAt K (rm (Og f (d::opn (c::r))) _) _ xs _;rw[i];exact⟨⟨ft,ha.same (Same.refl _) fun o h=>by rw[fq (AL j)];exact h,hb.same (Same.refl _) fun o h=>by rw[fq (AL l)];exact h⟩,hd,hs.same (Same.refl _) fun a ha o h=>by rw[fq (fun z=>k (by rw[<- z];exact ha))];exact h⟩
theorem BB.appA(Z:BB K f H xs b (c::r) n){ts:List Addr}(g:H c.a=some (.lst (ts.map V.ref)))(ht:DeedX K (rm (Og f (b::opn (c::r))) H) (ListX K (rm (Og f (b::opn (c::r))) H) (B (4 - r.length))) t d)(A:Gd xs [d] k):BB K f (upd H c.a (.lst (ts.map V.ref++[.ref t]))) xs b ({ c with na:=c.na+k }::r) (n+k):=by
 obtain⟨F,s,E,q,I,C,D,v,G,y⟩:=Z.off;have i:c.a∈b::opn (c::r):=by rw[jk];simp
 have p:=tq (X:=Og f (b::opn (c::r))) (H:=H) (a:=c.a) (o:=.lst (ts.map V.ref++[.ref t])) (.inl i);obtain⟨⟨hc,ha,hb⟩,hd,hs⟩:=Z.st;have cnt:=Z.cnt;refine⟨fun x o h=>by rw[fq (g6 h (Z.fr _ i))];exact Z.e _ _ h,Z.nd,Z.fr,by rw[fq s];exact Z.w,?_,Z.low,?_⟩
 . show StkAt K (rm (Og f (b::opn (c::r))) _) _ xs _;rw[p];refine⟨⟨by rw[fq q];exact hc,?_,hb.same (Same.refl _) fun o h=>by rw[fq (AL C)];exact h⟩,hd,hs.same (Same.refl _) fun a ha o h=>by rw[fq (fun z=>v (by rw[<- z];exact ha))];exact h⟩;obtain⟨u,ds,m,l,j⟩:=ha;have e:=oe g m;subst e;exact⟨ts++[t],ds++[d],by rw[ft,Au];rfl,Paired.snocP l ht,j.app A⟩
 . unfold cntB at cnt |-;rw[Ar,Cm] at cnt |-;dsimp only at cnt |-
   lia
theorem BB.appB(Z:BB K g H xs f (c::r) n){ts:List Addr}(i:H c.b=some (.lst (ts.map V.ref)))(ht:DeedX K (rm (Og g (f::opn (c::r))) H) (ListX K (rm (Og g (f::opn (c::r))) H) (B (4 - r.length))) t d)(C:Gd xs [d] k):BB K g (upd H c.b (.lst (ts.map V.ref++[.ref t]))) xs f ({ c with nb:=c.nb+k }::r) (n+k):=by
 obtain⟨F,I,p,G,y,D,E,J,u,A⟩:=Z.off;have j:c.b∈f::opn (c::r):=by rw[jk];simp
 have s:=tq (X:=Og g (f::opn (c::r))) (H:=H) (a:=c.b) (o:=.lst (ts.map V.ref++[.ref t])) (.inl j);obtain⟨⟨hc,ha,hb⟩,hd,hs⟩:=Z.st;have cnt:=Z.cnt;refine⟨fun x o h=>by rw[fq (g6 h (Z.fr _ j))];exact Z.e _ _ h,Z.nd,Z.fr,by rw[fq p];exact Z.w,?_,Z.low,?_⟩
 . show StkAt K (rm (Og g (f::opn (c::r))) _) _ xs _;rw[s];refine⟨⟨by rw[fq y];exact hc,ha.same (Same.refl _) fun o h=>by rw[fq D];exact h,?_⟩,hd,hs.same (Same.refl _) fun a ha o h=>by rw[fq (fun z=>u (by rw[<- z];exact ha))];exact h⟩;obtain⟨v,ds,q,m,l⟩:=hb;have e:=oe i q;subst e;exact⟨ts++[t],ds++[d],by rw[ft,Au];rfl,Paired.snocP m ht,l.app C⟩
 . unfold cntB at cnt |-;rw[Ar,Cm] at cnt |-;dsimp only at cnt |-
   lia
theorem BB.pop(Z:BB K f H xs d (c::b::r) n)(hn:n<=30)(h':Hp)(G:h'=upd H d (.lst (((b::r).map fun c=>V.ref c.ce).reverse))):∃m k,m+k=n/\c.na+c.nb+1=k/\BB K f h' xs d (b::r) m/\h' c.ce=some (.lst [.str c.wd,c.cd,.ref c.a,.ref c.b])/\(∃i,ListX K (rm (Og f (d::opn (b::r))) h') (B (4 - r.length)) c.a i/\Gd xs i c.na)/\(∃u,ListX K (rm (Og f (d::opn (b::r))) h') (B (4 - r.length)) c.b u/\Gd xs u c.nb)/\CdAt (rm (Og f (d::opn (b::r))) h') xs c.cd:=by
 subst G;obtain⟨D,E,A,M,N,O,L,I,F,t⟩:=Z.off;have nd:=Z.nd;have low:=Z.low;rw[AC,AC] at low;have cnt:=Z.cnt;unfold cntB at cnt;rw[Ar,Cm,Ar,Cm] at cnt;obtain⟨⟨hc,ha,hb⟩,hd,hs⟩:=Z.st;have l:Same (rm (Og f (d::opn (c::b::r))) H) (rm (Og f (d::opn (b::r))) H):=a26 fun x g=>g.imp (fun g=>by
  rw[jk];rcases Ah.mp g with rfl|z
  . exact Af
  . exact Al _ (by simp[z])) id
 have q:=tq (X:=Og f (d::opn (b::r))) (H:=H) (a:=d) (o:=.lst (((b::r).map fun c=>V.ref c.ce).reverse)) (.inl Af);have v:∀{a:Addr} {k:Nat},LsAt K (rm (Og f (d::opn (c::b::r))) H) H xs (4 - (b::r).length) a k->d≠a->a∉opn (b::r)->f a=none->k<=30->∃i,ListX K (rm (Og f (d::opn (b::r))) H) (B (4 - r.length)) a i/\Gd xs i k:=fun {a k} h n1 n2 n3 w=>by
  obtain⟨ts,ds,s,p,j⟩:=h;refine⟨ds,?_,j⟩;rw[show 4 - r.length=(4 - (b::r).length)+1 by rw[AC];lia];refine⟨ts,?_,Paired.mapP p fun _ _ z=>z.same l fun _ _ y=>y.same l,?_⟩
  . rw[iz (fun z=>?_)]
    . exact s
    . rcases z with z|⟨vs,z⟩
      . rcases Ah.mp z with y|y
        . exact n1 y.symm
        . exact n2 y
      . rw[n3] at z;cases z
  . rw[AB p];exact Ax j.short w
 refine⟨n - (c.na+c.nb+1),c.na+c.nb+1,by lia,rfl,⟨fun x o h=>by rw[fq (g6 h (Z.fr _ Af))];exact Z.e _ _ h,?_,fun x g=>Z.fr x ?_,ft,?_,by rw[AC];lia,?_⟩,?_,?_,?_,?_⟩
 . rw[jk] at nd;simp only[AU,Ah,not_or] at nd |-;exact⟨nd.1.2.2.2,nd.2.2.2.2⟩
 . rw[jk];rcases Ah.mp g with rfl|z
   . exact Af
   . exact Al _ (by simp[z])
 . rw[q];exact hs.same l fun a ha o h=>by rw[fq (fun z=>t (by rw[<- z];exact ha))];exact h
 . unfold cntB;rw[Ar,Cm]
   lia
 . rw[fq (AL D)];exact hc
 . rw[q];exact v ha E I (Z.fr _ (by rw[jk];simp)) (by lia)
 . rw[q];exact v hb A F (Z.fr _ (by rw[jk];simp)) (by lia)
 . rw[q];obtain⟨J,C,s,p,j⟩:=hd (by simp);exact⟨J,C,s,l _ _ p,j⟩
theorem BB.live(Z:BB K d H xs b cs n):∀x∈b::opn cs,∃o,H x=some o:=fun x a=>by
 rcases Ah.mp a with rfl|z
 . exact⟨_,Z.w⟩
 . have key:∀{cs:List Bk} {G:Hp},StkAt K G H xs cs->∀x∈opn cs,∃o,H x=some o:=by
    intro cs;induction cs with
    | nil=>intro G _ x a;cases a
    | cons c r ih =>
     intro G h x a;obtain⟨⟨hc,⟨_,_,ha,_⟩,⟨_,_,hb,_⟩⟩,_,hs⟩:=h;rw[jk] at a;simp only[Ah] at a;rcases a with rfl|rfl|rfl|a
     . exact⟨_,hc⟩
     . exact⟨_,ha⟩
     . exact⟨_,hb⟩
     . exact ih hs x a
   exact key Z.st x z
theorem BB.new(Z:BB K c H xs b cs n)(h:H y=none):¬ Og c (b::opn cs) y:=fun z=>by
 rcases z with z|⟨vs,z⟩
 rotate_left
 . have:=Z.e _ _ z;rw[h] at this;cases this
 obtain⟨o,a⟩:=Z.live y z;rw[h] at a;cases a
theorem BB.push(Z:BB K r H xs f cs n)(e:Same H i)(hl:cs.length<5)(u:cs≠[]){wd:Str}(nc:H ce=none)(na:H a=none)(nb:H b=none)(p:H cd=none)(w:ce≠a)(C:ce≠b)(A:a≠b)(hcd:i cd=some (.tup (l.map V.str)))(d:cd≠ce/\cd≠a/\cd≠b)(hok:lp xs l)(s:i ce=some (.lst [.str wd,.ref cd,.ref a,.ref b]))(ha:i a=some (.lst []))(hb:i b=some (.lst [])):
 BB K r (upd i f (.lst ((cs.map fun c=>V.ref c.ce).reverse++[.ref ce]))) xs f (⟨ce,a,b,wd,.ref cd,0,0⟩::cs) (n+1):=by
 have new:∀{y:Addr},H y=none->y∉f::opn cs:=fun h z=>Z.new h (.inl z);have n1:=new nc;have n2:=new na;have n3:=new nb;have n4:=new p;have v:=tq (X:=Og r (f::opn (⟨ce,a,b,wd,.ref cd,0,0⟩::cs))) (H:=i) (a:=f) (o:=.lst ((cs.map fun c=>V.ref c.ce).reverse++[.ref ce])) (.inl Af);have t:Same (rm (Og r (f::opn cs)) H) (rm (Og r (f::opn (⟨ce,a,b,wd,.ref cd,0,0⟩::cs))) i):=fun x o g=>by
  obtain⟨g1,j⟩:=mo g;rw[iz (fun y=>?_)]
  . exact e _ _ j
  . rcases y with y|y
    rotate_left
    . exact g1 (.inr y)
    rw[jk] at y;simp only[Ah] at y;rcases y with y|y|y|y|y
    . exact g1 (.inl (by rw[y];exact Af))
    . rw[y,nc] at j;cases j
    . rw[y,na] at j;cases j
    . rw[y,nb] at j;cases j
    . exact g1 (.inl (Al _ y))
 have m:∀{y:Addr},y∉f::opn cs->y≠f/\y∉opn cs:=fun {y} h=>⟨fun z=>h (by rw[z];exact Af),fun z=>h (Al _ z)⟩
 have q:∀{G:Hp} {k:Nat} {x:Addr},i x=some (.lst [])->x≠f->LsAt K G (upd i f (.lst ((cs.map fun c=>V.ref c.ce).reverse++[.ref ce]))) xs k x 0:=fun h z=>⟨[],[],by rw[fq z];exact h,.nil,.nil xs⟩
 have cnt:=Z.cnt;refine⟨fun x o h=>by rw[fq (g6 h (Z.fr _ Af))];exact e _ _ (Z.e _ _ h),?_,fun x g=>?_,by rw[ft,Ar,Dk],?_,by rw[AC];lia,?_⟩
 . have nd:=Z.nd;rw[jk];simp only[AU,Ah,not_or] at nd n1 n2 n3 |-;exact⟨⟨AL n1.1,AL n2.1,AL n3.1,nd.1⟩,⟨w,C,n1.2⟩,⟨A,n2.2⟩,n3.2,nd.2⟩
 . rw[jk] at g;simp only[Ah] at g;rcases g with rfl|rfl|rfl|rfl|g
   . exact Z.fr _ Af
   . exact Z.e.free nc
   . exact Z.e.free na
   . exact Z.e.free nb
   . exact Z.fr x (Al _ g)
 . rw[v];refine⟨⟨by rw[fq (m n1).1];exact s,q ha (m n2).1,q hb (m n3).1⟩,fun _=>⟨cd,l,rfl,?_,hok⟩,Z.st.same t fun x g o h=>?_⟩
   . rw[iz (fun y=>?_)]
     . exact hcd
     . rcases y with y|⟨vs,y⟩
       rotate_left
       . have:=Z.e _ _ y;rw[p] at this;cases this
       rw[jk] at y;simp only[Ah] at y;rcases y with y|y|y|y|y
       . exact (m n4).1 y
       . exact d.1 y
       . exact d.2.1 y
       . exact d.2.2 y
       . exact (m n4).2 y
   . have nd:=Z.nd;rw[fq (fun z=>(AU.mp nd).1 (by rw[<- z];exact g))];exact e _ _ h
 . unfold cntB at cnt |-;rw[Ar,Cm];dsimp only
   lia
end K56
namespace L2
open PySem PySem.Spec PyProof.Rows
section
variable{prog:Program}{w:World}{A:Around}{E:Value->Shared->Prop}{s:Shared} in
theorem zd{it t:Addr}{items:Array Value}(e:t≠it):∀(n i:Nat) (s:Shared) (Q:List Value->Shared->Prop),s.heap.IsListIter it t i->s.heap.IsList t items->i+n<=items.size->
 (∀h',h'.IsListIter it t (i+n)->Cu it s.heap h'->Q ((items.toList.drop i).take n) { s with heap:=h' })->wpAny (model prog w) A (draw (.ref it) n) Q E s
 | 0,i,s,Q,hit,_,_,hQ=>by
  show wpAny _ _ (pure []) Q E s;exact Ae (by simpa using hQ s.heap hit (IU ..))
 | n+1,i,s,Q,hit,ht,hle,hQ=>by
  have c:i<items.size:=by lia
  show wpAny _ _ (pyNext (.ref it) >>= _) Q E s;refine Aa (EK hit ht (x:=items[i]) (by simp[c]) fun h b d=>?_);refine Aa (AX (zd e n (i+1) _ _ b (ht.extBut d.extBut e) (by lia) fun g a f=>Ae ?_));have hd:items.toList.drop i=items[i]::items.toList.drop (i+1):=by simp[Ge,c]
  have:=hQ g (by rw[show i+(n+1)=i+1+n by lia];exact a) (d.trans f);rw[hd,List.take_succ_cons] at this;exact this
theorem xa(p:A.handled=none)(ht:s.heap.IsList t items)(n:∀h',Ho s.heap.objs.size s.heap h'->Q items.toList { s with heap:=h' }):wpAny (model prog w) A (unpackItems (.ref t) items.size none) Q E s:=by
 have g:t≠s.heap.objs.size:=by obtain⟨o,d,_⟩:=ht;exact AA (As d)
 have a:(s.heap.push { cls:=.type "list_iterator",data:=.fields #[.ref t,.int 0 0] }).IsList t items:=by obtain⟨o,d,r⟩:=ht;exact⟨o,Ab _ d,r⟩
 have i:s.TypeIs (.ref t) "list" := by obtain⟨o,d,hc,_⟩:=ht;exact⟨o,d,hc⟩
 unfold unpackItems;refine Aa ?_
 . unfold notIterableAtAll;refine Aa (He i F.slot_list_iter.lookup ?_);refine Ae ?_;simp only[By,if_false];refine Aa (AX (Cp ht ?_));refine Aa (AX (zd g items.size 0 _ _ ⟨_,An _ rfl,rfl,rfl⟩ a (by lia) fun m c h=>?_));have f:List.take items.size (List.drop 0 items.toList)=items.toList:=by
    rw[CO];exact Bg (by simp)
   rw[f];rw[if_neg (by simp)];have j:m.IsList t items:=a.extBut h.extBut g;refine Aa (AX (ET p c j (by simp) fun l k=>?_));simp only[Option.isSome_none,By,if_false];refine Ae (n l fun b o hb e=>k b o hb (h.extBut b o hb (Ab _ e)))
theorem uw{x1}(c:A.handled=none)(ht:s.heap.IsList t items)(hn:(assignEach a env).length=items.size)(b:(assignEach a env).findIdx? (·.1)=none)(h:∀h',Ho s.heap.objs.size s.heap h'->wpAny (model prog w) A (assignInOrder ((assignEach a env).map (·.2)) items.toList) Q E { s with heap:=h' }):
 wpAny (model prog w) A (assign (.Tuple a x1 pos) env (.ref t)) Q E s:=by
 rw[assign_Tuple];refine Aa (EO ?_);unfold unpack;rw[hn,b];exact Aa (AX (xa c ht h))
end
def gLst(K:Ac)(n:Nat)(t:TGs):TG:=fun v σ H Q=>∃a xs,v=.ref a/\SqL K H a xs/\xs.length=n/\t xs σ H Q
theorem ac1(hc:X.calm=true)(h:PGs X es t)(hn:(assignEach es X.env).length=n:=by rfl)(f:(assignEach es X.env).findIdx? (·.1)=none:=by rfl):PG X (.Tuple es k pos) (gLst X.K n t):=by
 intro c s σ H v u Q I r d;obtain⟨a,xs,j,hq,hl,d⟩:=d;subst j;cases r;obtain⟨its,g,ht,hz⟩:=I.list hq;refine uw (I.ok.hd hc) ht.isList (by simp[hn,<- hl,g.length]) f fun h' l=>?_;have i:Inv X c σ H { s with heap:=h' }:=I.kept (t':=s.toks) fun b o e=>l b o (AA (As e)) e;exact h c _ σ H xs _ Q i (by simpa using g) d
end L2
namespace K56
open PySem PySem.Spec L2 Mir
theorem abr(hK:X.K=K){pv:Pos}(g:QG X (.Name x px) (gq i))(f:QG X (.Name y b) (gq j))(e:QG X (.Name z a) (gq l))(o:QG X (.Name v pv) (gq m))(hc:X.calm=true:=by rfl)(n:(assignEach [.Name x px,.Name y b,.Name z a,.Name v pv] X.env).map (·.2)=assign (.Name x px) X.env::(assignEach [.Name y b,.Name z a,.Name v pv] X.env).map (·.2):=by rfl)(h:(assignEach [.Name y b,.Name z a,.Name v pv] X.env).map (·.2)=assign (.Name y b) X.env::(assignEach [.Name z a,.Name v pv] X.env).map (·.2):=by rfl)(d:(assignEach [.Name z a,.Name v pv] X.env).map (·.2)=assign (.Name z a) X.env::(assignEach [.Name v pv] X.env).map (·.2):=by rfl)(p:(assignEach [.Name v pv] X.env).map (·.2)=assign (.Name v pv) X.env::(assignEach [] X.env).map (·.2):=by rfl)(hn:(assignEach [.Name x px,.Name y b,.Name z a,.Name v pv] X.env).length=4:=by rfl)(c:(assignEach [.Name x px,.Name y b,.Name z a,.Name v pv] X.env).findIdx? (·.1)=none:=by rfl):QG X (.Tuple [.Name x px,.Name y b,.Name z a,.Name v pv] k pos) (gLst K 4 (my (gq i) (my (gq j) (my (gq l) (my (gq m) gNil))))):=by
 subst hK;exact⟨ac1 hc (kj g.run (kj f.run (kj e.run (kj o.run wg p) d) h) n) hn c⟩
abbrev a45:Stmt:=top 39
inductive spClosed(K:Ac)(vs:List V)(H:Hp)(Q:VK)(E:XK):Prop
 | mk (H0:Hp)(xs:Ev)(wa:Addr)(c b:Bk)(r:List Bk)(n:Nat)(h0:vs=[.ref wa])(hS:BB K H0 H xs wa (c::b::r) n)(hn:n<=28)(hx:∀y∈xs.xs,Ok y)(q:∀H' b',BB K H0 H' xs wa (b'::r) n->Q .non H'):spClosed K vs H Q E
theorem a7i(C:Con K mg w)(F:Fun K "_law_closed" "_law_closed" a45 f fd):FnOk P w K mg base CX0 1 f fd ["_law_blocks"] (spClosed K):=by
 refine F.okA ["_law_blocks","_law_word","_law_condition","_law_first","_law_second","_law_deed"] fun ar A outer s0 H vs Q E hr h nd=>?_;obtain⟨R,xs,e,c,b,r,n,rfl,Z,hn,hx,q⟩:=h;have an:=kx hr;refine⟨_,fw (pi (a15 AM EW EX a2s (qv 0)) (abr (K:=K) rfl (jc 1 nd) (jc 2 nd) (jc 3 nd) (jc 4 nd)))
  (fw (gp 5 nd (je (i9 (fy (qv 2) (oi (mx ad (mx ad ad)) (fy (qv 3) ad))))))
  (fw (ie (gi ri (qv 1) i7 (gn _)) (fz (gp 5 nd (je (i9 (fy (qv 2) (fy (qv 3) (fy (qv 4) ad))))))) iq)
  (fz (ik (ke (K:=K) rfl AM BC BD kg (i0 K (i0 K (qv 0) (jv jl fu)) (i0 K (i8 (gs (gs ad))) (i6 mr rfl C.int Dh (jf (oh ib (i0 K (i0 K (qv 0) (jv jl fu)) fu) i7 (gn _)) ad)))) (fy (qv 5) ad)))))),?_⟩
 have low:=Z.low;rw[AC,AC] at low;have ai:(((b::r).map fun c=>V.ref c.ce).reverse++[V.ref c.ce])[(((b::r).map fun c=>V.ref c.ce).reverse++[V.ref c.ce]).length - 1]? = some (V.ref c.ce):=by
  rw[Aj,Ba,FD];exact DW
 refine g8 (a:=tAsg _ _) fun D1 af _ _=>?_;refine⟨_,rfl,.inl ⟨rfl,_,SqL.of Z.last⟩,e,_,_,rfl,rfl,Z.last,ai,?_⟩;rw[Fj];obtain⟨m,k,ae,hk,O,kc,⟨da,la,ga⟩,⟨db,lb,gb⟩,⟨g,rr,hcd,I,J⟩⟩:=Z.pop (Ax hn (by decide)) _ rfl;generalize upd H e (.lst (((b::r).map fun c=>V.ref c.ce).reverse))=G at O kc la lb I |-;refine⟨c.ce,_,rfl,SqL.of kc,rfl,_,_,rfl,_,_,rfl,_,_,rfl,_,_,rfl,rfl,?_⟩;rw[hcd];refine af [some (.ref e),some (.str c.wd),some (.ref g),some (.ref c.a),some (.ref c.b),none] _ ?_;clear af;obtain⟨f0,x0,y0,er,ak,al,aj⟩:=id J;have okr:∀y∈rr,Ok y:=fun y hy=>by
  rw[er] at hy;simp only[Ah,Ay,or_false] at hy;rcases hy with rfl|rfl|rfl
  . rcases ak with rfl|rfl
    . exact js _ (by simp)
    . exact js _ (by simp)
  . exact hx _ al
  . rcases Ap.mp aj with z|z
    . exact hx _ z
    . rw[Ao.mp z];exact js _ (by simp)
 have fin:∀(L:Hp) (t:Addr) (d:Deed),BB K R L xs e (b::r) m->DeedX K (rm (Og R (e::opn (b::r))) L) (ListX K (rm (Og R (e::opn (b::r))) L) (B (4 - r.length))) t d->Gd xs [d] k->(mn
  (tBM K "list" a43
   (tOp (rIxL K) (tOp (rIxL K) (tVar 0) (tUn (rU fun i=>V.int (-i)) (tC (V.int 1))))
    (tOp (rIxL K) (tLst (ip (tC (V.int 2)) (ip (tC (V.int 3)) tNil)))
     (tCB (fun xs H Q=>∃b,xs=[V.bl b]/\Q (V.int (if b=true then 1 else 0)) H)
      (ip
       (tOp rEq
        (tOp (rIxL K) (tOp (rIxL K) (tVar 0) (tUn (rU fun i=>V.int (-i)) (tC (V.int 1))))
         (tC (V.int 0)))
        (tC (V.str (Bf "else"))))
       tNil))))
   (ip (tVar 5) tNil))) { nx:=fun x H'=>Q V.non H',rt:=Q } [some (.ref e),some (.str c.wd),some (.ref g),some (.ref c.a),some (.ref c.b),some (.ref t)] L:=fun L t d Y hd hg=>by
  refine⟨_,rfl,_,rfl,e,_,_,_,rfl,rfl,SqL.of Y.last,jd,(show 2<=sizeLine by decide),fun u hu=>?_⟩;obtain⟨G1,z0,p,k1⟩:=gr hu (.lst [V.int 2,V.int 3]);rw[z0];have D:=Y.same p;have S:=hd.same (jp (X:=Og R (e::opn (b::r))) p) fun _ _ y=>y.same (jp p);refine⟨_,rfl,_,rfl,e,_,_,_,rfl,rfl,SqL.of D.last,jd,b.ce,_,0,_,rfl,rfl,SqL.of D.hc,at0,rfl,_,rfl,?_⟩;obtain⟨⟨_,⟨am,au,ka,pa,gA⟩,⟨av,ao,kb,pb,gB⟩⟩,_⟩:=D.st;have cnt:=D.cnt;unfold cntB at cnt;rw[Ar,Cm] at cnt;have ap:=AB pa;have aq:=AB pb;have sa:=gA.short;have sb:=gB.short;by_cases z:b.wd = "else"
  . rw[decide_eq_true (show V.str b.wd=V.str (Bf "else") from congrArg V.str z)];refine⟨u,_,1,_,rfl,rfl,SqL.of k1,rfl,b.ce,_,3,_,rfl,rfl,SqL.of D.hc,rfl,.inl ⟨rfl,_,SqL.of kb⟩,_,rfl,b.b,_,_,rfl,rfl,kb,j6 (by rw[Ad];lia),?_⟩;have:=D.appB kb S hg;rw[ae] at this;exact q _ _ this
  . rw[decide_eq_false (show ¬ V.str b.wd=V.str (Bf "else") from fun y=>z (V.str.inj y))];refine⟨u,_,0,_,rfl,rfl,SqL.of k1,rfl,b.ce,_,2,_,rfl,rfl,SqL.of D.hc,rfl,.inl ⟨rfl,_,SqL.of ka⟩,_,rfl,b.a,_,_,rfl,rfl,ka,j6 (by rw[Ad];lia),?_⟩;have:=D.appA ka S hg;rw[ae] at this;exact q _ _ this
 refine g8 (a:=tAsg _ _) fun D2 U _ _=>?_;refine⟨_,rfl,(show 0<=sizeLine by decide),fun s T=>⟨(show 0<=sizeLine by decide),fun v N=>⟨(show 2<=sizeLine by decide),fun o l=>⟨_,rfl,(show 4<=sizeLine by decide),fun e4 j=>?_⟩⟩⟩⟩;have p:=gc T (.lst []);have k1:(upd G s (.lst [])) s=some (.lst []):=ft;generalize upd G s (.lst [])=G1 at p k1 N l j |-;have s2:=gc N (.lst []);have k2:(upd G1 v (.lst [])) v=some (.lst []):=ft;generalize upd G1 v (.lst [])=G2 at s2 k2 l j |-;have s3:=gc l (.tup [.ref s,.ref v]);have k3:(upd G2 o (.tup [.ref s,.ref v])) o=some (.tup [.ref s,.ref v]):=ft;generalize upd G2 o (.tup [.ref s,.ref v])=G3 at s3 k3 j |-;obtain⟨G4,z1,W,k4⟩:=gr j (.tup [.str "while",.ref g,.ref o,.ref c.a]);dsimp only[gq];rw[z1];have ag:=p.trans s2;have aa:=ag.trans s3;have ac:=aa.trans W;refine U [some (.ref e),some (.str c.wd),some (.ref g),some (.ref c.a),some (.ref c.b),some (.ref e4)] _ ?_;clear U;have Z4:=O.same ac;have n1:=O.new T;have n2:=O.new (p.free N);have n3:=O.new (ag.free l);have n4:=O.new (aa.free j);have rs:=jp (X:=Og R (e::opn (b::r))) ac;refine g8 (a:=tIfS _ _ _) fun D3 ah _ _=>?_;refine⟨_,rfl,rfl,_,rfl,iteB (fun cw=>?_) (fun cw=>?_)⟩
 . refine⟨_,rfl,_,rfl,_,rfl,(show 4<=sizeLine by decide),fun e5 ab=>?_⟩;obtain⟨G5,z2,s5,k5⟩:=gr ab (.tup [.str "if",.ref g,.ref c.a,.ref c.b]);dsimp only[gq];rw[z2];refine ah [some (.ref e),some (.str c.wd),some (.ref g),some (.ref c.a),some (.ref c.b),some (.ref e5)] _ ?_;have n5:=Z4.new ab;have M:=rs.trans (jp (X:=Og R (e::opn (b::r))) s5);refine fin G5 e5 (.cond rr da db) (Z4.same s5) (.cond g c.a c.b rr da db (by rw[iz n5];exact k5) (M _ _ I) okr (la.same M) (lb.same M)) ?_;rw[<- hk];exact Gd.cond J ga gb
 . refine ah _ _ ?_;refine fin G4 e4 (.loop rr [] [] da) Z4 (.loop g o c.a s v rr [] [] da (by rw[iz n4];exact k4) (rs _ _ I) okr (by rw[iz n3];exact W _ _ k3) ⟨[],by rw[iz n1];exact (s2.trans (s3.trans W)) _ _ k1,.nil⟩ ⟨[],by rw[iz n2];exact (s3.trans W) _ _ k2,.nil⟩ (fun _ h=>by cases h) (fun _ h=>by cases h) (by decide) (by decide) (la.same rs)) ?_;have:=Gd.loop J ga;exact this.mono (by lia)
end K56
namespace L2
open PySem PySem.Spec
theorem a2r(i:OpR X (compareOp op) r)(e:OpR X (compareOp d) j)(ha:QE X a f)(hb:QE X b g)(hc:QE X c h)(hm:lastMarks [op,d] [b,c]=false:=by with_unfolding_all rfl):QT X (.Compare a [op,d] [b,c] pos) (u5 (a6o r j f g h)):=⟨aa0 i e ha.run hb.run hc.run hm⟩
theorem u7(h:∀c:TS,(b D σ H->c D σ H)->tIfS t a c D σ H):tIfS t a b D σ H:=h b id
end L2
namespace K56
open PySem PySem.Spec L2 Mir
abbrev ab4:Stmt:=top 40
theorem BB.start(e:Same H d)(k:H g=none)(n1:H ce=none)(n2:H a=none)(n3:H b=none)(hnd:[g,ce,a,b].Nodup)(h:d g=some (.lst [.ref ce]))(i:d ce=some (.lst [.str "",.non,.ref a,.ref b]))(j:d a=some (.lst []))(kb:d b=some (.lst [])):BB K H d xs g [⟨ce,a,b,"",.non,0,0⟩] 0:=by
 refine⟨e,hnd,fun c hc=>?_,h,⟨⟨i,⟨[],[],j,.nil,.nil xs⟩,⟨[],[],kb,.nil,.nil xs⟩⟩,fun z=>absurd rfl z,trivial⟩,(by show 1<=5;decide),(by show 1<=1;decide)⟩;have f:c∈[g,ce,a,b]:=hc;simp only[Ah,Ay,or_false] at f;rcases f with rfl|rfl|rfl|rfl<;>assumption
def HeadsAt(H:Hp)(hl:Addr)(hs:List (Str×Nat×Bool)):Prop:=∃ts:List Addr,H hl=some (.lst (ts.map V.ref))/\Paired (fun t (h:Str×Nat×Bool)=>H t=some (.tup [.str h.1,.int (h.2.1:Int),.bl h.2.2])) ts hs
theorem HeadsAt.same(h:HeadsAt H hl hs)(e:Same H H'):HeadsAt H' hl hs:=by
 obtain⟨ts,b,a⟩:=h;exact⟨ts,e _ _ b,Paired.mapP a fun _ _ z=>e _ _ z⟩
theorem a9j(p:Str->Prop)(M:N<=1000)(nd:G dl=none)(t:DI G dl L)(I:∀(i:Nat) H2,DI G dl H2->∀s:VK,(∀y g,jq dl H2 g->(∃n:Int,g dl=some (.lst [.int n]))->p y->s (.str y) g)->F (some (.int (0+(i:Int)))::j5 σ E) H2 s)(C:∀D H' ys,DI G dl H'->H' D=some (.lst ((ys:List Str).map V.str))->ys.length=N->(∀y∈ys,p y)->Q (.ref D) H'):qy (Itr 0 N) L σ E tYes F Q:=by
 intro D l;obtain⟨w,n1,k1⟩:=id t;have h:D≠dl:=fun z=>by rw[z,k1] at l;cases l
 have k:G D=none:=w.free l;have put:∀{H:Hp} {ys:List V},DI G dl H->DI G dl (upd H D (.lst ys)):=fun S=>⟨fun b o z=>by rw[fq (g6 z k)];exact S.1 _ _ z,by obtain⟨n,hn⟩:=S.2;exact⟨n,by rw[fq (AL h)];exact hn⟩⟩
 refine⟨fun i m H=>i<=N/\m=N - i/\∃(ys:List Str),DI G dl H/\H D=some (.lst (ys.map V.str))/\ys.length=i/\∀y∈ys,p y,⟨N,AH _,rfl,[],put t,ft,rfl,(fun r j=>by cases j)⟩,?_⟩;rintro i m H ⟨hi,rfl,ys,S,c,a,f⟩;by_cases d:i<N
 . refine .inr ⟨d,fun x H' v=>?_⟩;obtain⟨rfl,rfl⟩:=v;refine I i H' S _ fun y g u n3 j=>?_;have q:=u _ _ c h;have J:DI G dl g:=⟨fun b o z=>u _ _ (S.1 _ _ z) (g6 z nd),n3⟩
   refine⟨ys.map V.str,q,AN (by rw[Ad];lia:_<=1000) (by decide),N - (i+1),by lia,d,rfl,ys++[y],put J,?_,?_,?_⟩
   . rw[ft,Au];rfl
   . rw[Aj,a];rfl
   . intro x A;rcases Ap.mp A with z|z
     . exact f x z
     . rw[Ao.mp z];exact j
 . have e:i=N:=by lia
   subst e;exact .inl ⟨Ak _,C D H ys S c a f⟩
theorem adw(b:∀y∈xs,Ok y)(h:InD xs d):PlOk (.row (rowD d)):=by
 have c:∀{y:Str},y∈xs++[("nil" : Str)]->Ok y:=fun h=>(Ap.mp h).elim (fun z=>b _ z) fun z=>by rw[Ao.mp z];exact js _ (by simp)
 have g:∀{y:Str},yw y->Ok y:=fun h=>by rcases h with rfl|rfl<;>exact js _ (by simp)
 cases d with
 | set x e=>exact⟨⟨_,_,_,rfl,Af,rfl⟩,fun y a=>by
  simp only[rowD,Ah,Ay,or_false] at a;rcases a with rfl|rfl|rfl
  . exact js _ (by simp)
  . exact b _ h.1
  . exact c h.2⟩
 | read x y f=>exact⟨⟨_,_,_,rfl,Al _ Af,rfl⟩,fun z a=>by
  simp only[rowD,Ah,Ay,or_false] at a;rcases a with rfl|rfl|rfl|rfl
  . exact js _ (by simp)
  . exact b _ h.1
  . exact b _ h.2.1
  . exact g h.2.2⟩
 | write y f e=>exact⟨⟨_,_,_,rfl,Al _ (Al _ Af),rfl⟩,fun z a=>by
  simp only[rowD,Ah,Ay,or_false] at a;rcases a with rfl|rfl|rfl|rfl
  . exact js _ (by simp)
  . exact b _ h.1
  . exact g h.2.1
  . exact c h.2.2⟩
 | new x e f=>exact⟨⟨_,_,_,rfl,Al _ (Al _ (Al _ Af)),rfl⟩,fun z a=>by
  simp only[rowD,Ah,Ay,or_false] at a;rcases a with rfl|rfl|rfl|rfl
  . exact js _ (by simp)
  . exact b _ h.1
  . exact c h.2.1
  . exact c h.2.2⟩
 | free y=>exact⟨⟨_,_,_,rfl,Al _ (Al _ (Al _ (Al _ Af))),rfl⟩,fun z a=>by
  simp only[rowD,Ah,Ay,or_false] at a;rcases a with rfl|rfl
  . exact js _ (by simp)
  . exact b _ h⟩
inductive spBody(K:Ac)(vs:List V)(H:Hp)(Q:VK)(E:XK):Prop
 | mk (ca ow ev hl:Addr)(ns:List Int)(os:List Str)(xs:Ev)(h0:vs=[.ref ca,.ref ow,.ref ev,.ref hl])(h1:H ca=some (.lst (ns.map V.int)))(h2:ns.length<=28)(h3:H ow=some (.lst (os.map V.str)))(h4:os≠[])(h5:∀y∈os,y∈xs.xs)(h5':os.length<=6)(h6:H ev=some (.lst (xs.xs.map V.str)))(h7:xs.xs.length=6)(h8:∀y∈xs.xs,i5 y=true)(h9:HeadsAt H hl xs.hs)(h10:xs.hs≠[])(h11:xs.hs.length<=6)(h12:∀h∈xs.hs,h.2.1<=8/\i5 h.1=true)(q:∀bd ds H',Same H H'->ListX K (rm (fun c=>∃vs,H c=some (.lst vs)) H') (B 5) bd ds->Gd xs ds ns.length->Q (.ref bd) H'):spBody K vs H Q E
theorem aca(C:Con K mg w)(F:Fun K "_law_body" "_law_body" ab4 f fd)(GF:FnOk P w K mg base CX0 2 gF dF ["_law_cell","_law_k"] vn)(cF:Cal K mg "_law_fed" gF dF ["_law_cell","_law_k"])(GD:FnOk P w K mg base CX0 1 gD dD ["_law_digits","_law_many"] mj)(T:Cal K mg "_law_digit" gD dD ["_law_digits","_law_many"])(GC:FnOk P w K mg base CX0 1 gC dC ["_law_blocks"] (spClosed K))(cC:Cal K mg "_law_closed" gC dC ["_law_blocks"])(GP:FnOk P w K mg base CX0 2 gP dP ["_law_digits","_law_own","_law_every","_law_word"] spPlain)(cP:Cal K mg "_law_plain" gP dP ["_law_digits","_law_own","_law_every","_law_word"]):FnOk P w K mg base CX0 3 f fd ["_law_cells","_law_own","_law_every","_law_heads"] (spBody K):=by
 refine F.okA ["_law_cells","_law_own","_law_every","_law_heads","_law_blocks","_law_cell","_law_digits","_law_way","_law_here","_law_e","_law_condition","_law_name","_law_many","_law_gives","_law_x","_law_given","_law_word"] fun cq A outer s0 H vs Q E hr h nd=>?_;obtain⟨ca,X,N,hl,ns,os,xs,rfl,bo,bE,aF,bp,aL,cm,ac,af,bW,bP,bY,ci,bH,q⟩:=h;have cj:=kx hr;have ab:=hr.mono (j:=1) (by lia);refine⟨_,fw (gp 4 nd (i8 (mx (i9 (jf oq (mx ad (mx ad ad)))) ad)))
  (fw (jw AO rfl (a13 (K:=K) rfl (qv 0)) (jc 5 nd) (fw (yt (i:=6) nd rfl (Or.inr rfl) (gk GF hr cF (fy (qv 5) (gs ad))))
  (fw (gp 7 nd (gk GD ab T (fy (qv 6) (gs ad))))
  (fw (gp 8 nd (i0 K (i0 K (qv 4) (jv jl fu)) (i0 K (i8 (gs (gs ad))) (i6 mr rfl C.int Dh (jf (oh ib (i0 K (i0 K (qv 4) (jv jl fu)) fu) i7 (gn _)) ad)))))
  (fz (ie (QW.qt (ph (gi qa (qv 7) fu (gn _)) (ng (gi qa (ii (lenK (K:=K) rfl) rfl C.len AV (fy (qv 4) ad)) fu (gn _))))) (fw (gp 9 nd (i0 K (gh ky (qv 2) (i8 (i9 ad))) (gk GD ab T (fy (qv 6) (jb (gh ij (ii (lenK (K:=K) rfl) rfl C.len AV (fy (qv 2) ad)) fu) ad)))))
  (fw (gp 10 nd (je (gj (i0 K (i8 (i9 (i9 ad))) (gk GD ab T (fy (qv 6) (gs ad)))) (gj (i0 K (qv 2) (gk GD ab T (fy (qv 6) (gw (ii (lenK (K:=K) rfl) rfl C.len AV (fy (qv 2) ad)) ad)))) (fy (qv 9) ad)))))
  (fz (ik (ke (K:=K) rfl AM BC BD kg (qv 4) (mx (gj (i0 K (i8 (i9 (i9 ad))) (gh lq (qv 7) fu)) (fy (qv 10) (mx ad (mx ad ad)))) ad)))))) (fz (ie (QW.qt (ph (gi ib (qv 7) fu (gn _)) (ng (gi ib (i0 K (i0 K (qv 4) (jv jl fu)) fu) i7 (gn _))))) (fz (pi i7 (yx (i0 K (qv 4) (jv jl fu)) fu ui))) (fz (ie (QW.qt (ph (a2r qa qa fu (qv 7) fu) (ng (gi wp (ii (lenK (K:=K) rfl) rfl C.len AV (fy (qv 4) ad)) fu (gn _))))) (fz (ik (gk GC ab cC (fy (qv 4) ad)))) (fz (ie (a2r qa qa fu (qv 7) fu) (fw (pi (i0 K (qv 3) (gk GD ab T (fy (qv 6) (gw (ii (lenK (K:=K) rfl) rfl C.len AV (fy (qv 3) ad)) ad)))) (a37 (jc 11 nd) (jc 12 nd) (jc 13 nd)))
  (fw (gp 14 nd (i0 K (qv 1) (gk GD ab T (fy (qv 6) (gw (ii (lenK (K:=K) rfl) rfl C.len AV (fy (qv 1) ad)) ad)))))
  (fw (ub ["_law_k","_law_every","_law_digits"] [2,6] (i:=15) nd rfl (Or.inl rfl) (kd rfl C.range (fy (qv 12) ad)) (fun _ _ _ _=>ni) (fun _ _ _ _=>(i0 K (gh ky (qv 1) (i8 (i9 ad))) (gk GD ab T (fy (qv 2) (jb (gh ij (ii (lenK (K:=K) rfl) rfl C.len AV (fy (qv 1) ad)) fu) ad))))))
  (fz (ik (ke (K:=K) rfl AM BC BD kg (qv 8) (oi (i9 (gj (i0 K (i8 (i9 (fy (qv 14) ad))) (i6 mr rfl C.int Dh (fy (qv 13) ad))) (fy (qv 11) (gw (i6 q5 rfl C.tuple EE (fy (qv 15) ad)) ad)))) ad))))))) (fw (gp 16 nd (i0 K (i8 (i9 (i9 (i9 (i9 (i9 (i9 (i9 (i9 ad))))))))) (gh jo (qv 7) fu)))
  (fz (ik (ke (K:=K) rfl AM BC BD kg (qv 8) (gw (gk GP hr cP (fy (qv 6) (fy (qv 1) (fy (qv 2) (fy (qv 16) ad))))) ad)))))))))))))))))
  (fw (qi AO (gi wp (ii (lenK (K:=K) rfl) rfl C.len AV (fy (qv 4) ad)) fu (gn _)) (fz (ik (gk GC ab cC (fy (qv 4) ad)))))
  (fz (gu (i0 K (i0 K (qv 4) fu) fu))))),?_⟩
 have ar:∀y∈xs.xs,Ok y:=fun y hy=>qh (bW y hy);refine g8 (a:=tAsg _ _) fun D1 bg _ _=>?_;refine⟨(show 0<=sizeLine by decide),fun a ha=>⟨(show 0<=sizeLine by decide),fun b hb=>⟨(show 4<=sizeLine by decide),fun ce ai=>⟨(show 1<=sizeLine by decide),fun g aa=>?_⟩⟩⟩⟩;have s1:=gc ha (.lst []);have k1:(upd H a (.lst [])) a=some (.lst []):=ft;generalize upd H a (.lst [])=H1 at s1 k1 hb ai aa |-;have s2:=gc hb (.lst []);have k2:(upd H1 b (.lst [])) b=some (.lst []):=ft;generalize upd H1 b (.lst [])=H2 at s2 k2 ai aa |-;have W:=gc ai (.lst [.str "",.non,.ref a,.ref b]);have k3:(upd H2 ce (.lst [.str "",.non,.ref a,.ref b])) ce=some (.lst [.str "",.non,.ref a,.ref b]):=ft;generalize upd H2 ce (.lst [.str "",.non,.ref a,.ref b])=H3 at W k3 aa |-;obtain⟨H4,z0,U,k4⟩:=gr aa (.lst [.ref ce]);dsimp only[gq];rw[z0];have aY:=s1.trans s2;have aX:=aY.trans W;have M:∀{G:Hp} {x y:Addr} {o:HO},G x=some o->G y=none->y≠x:=fun h1 h2 z=>by rw[z,h1] at h2;cases h2
 have bf:=M k1 hb;have bB:=M (s2 _ _ k1) ai;have be:=M k2 ai;have bc:=M (W _ _ (s2 _ _ k1)) aa;have bn:=M (W _ _ k2) aa;have a6:=M k3 aa;have Z0:BB K H H4 xs g [⟨ce,a,b,"",.non,0,0⟩] 0:=BB.start (aX.trans U) (aX.free aa) (aY.free ai) ha (s1.free hb) (by simp[bc,bn,a6,bB,be,AL bf]) k4 (U _ _ k3) ((s2.trans (W.trans U)) _ _ k1) ((W.trans U) _ _ k2);refine bg [some (.ref ca),some (.ref X),some (.ref N),some (.ref hl),some (.ref g),none,none,none,none,none,none,none,none,none,none,none,none] _ ?_;clear bg s1 s2 W U k1 k2 k3 k4 hb ai aa aY aX bf bB be bc bn a6;refine g8 (a:=tFor _ _ _) fun D2 a2 _ _=>?_;refine⟨_,rfl,ca,rfl,⟨_,SqL.of (Z0.e _ _ bo)⟩,?_⟩;refine o9 (xs:=ns.map V.int) (fun i σ G=>∃(c:Bk) (r:List Bk) (z5 z6 z7 z8 z9 k J L I D s p:Option V),σ=[some (.ref ca),some (.ref X),some (.ref N),some (.ref hl),some (.ref g),z5,z6,z7,z8,z9,k,J,L,I,D,s,p]/\BB K H G xs g (c::r) i) ⟨_,_,none,none,none,none,none,none,none,none,none,none,none,none,rfl,Z0⟩ (fun i σ G _ z=>by obtain⟨c,r,z5,z6,z7,z8,z9,k,J,L,I,D,s,p,rfl,Z⟩:=z;exact SqL.of (Z.e _ _ bo)) ?_ ?_
 . rintro i x σ G hx ⟨c,r,z5,z6,z7,z8,z9,k,J,L,I,D,s,p,rfl,Z⟩;rw[Am] at hx;obtain⟨n,hn,rfl⟩:=Bb.mp hx;have hi:i<ns.length:=(Aw.mp hn).1;dsimp only[gq];refine g8 (a:=tAsg _ _) fun E1 bx _ _=>?_;refine⟨_,rfl,n,7,rfl,fun dl R=>?_⟩;have D0:DI G dl (upd G dl (.lst [.int (fedF n 7)])):=⟨gc R _,_,ft⟩
   generalize upd G dl (.lst [.int (fedF n 7)])=G1 at D0 |-;refine bx [some (.ref ca),some (.ref X),some (.ref N),some (.ref hl),some (.ref g),some (.int n),some (.ref dl),z7,z8,z9,k,J,L,I,D,s,p] _ ?_;clear bx;obtain⟨e1,n1,k1⟩:=id D0;refine g8 (a:=tAsg _ _) fun E2 bw _ _=>?_;refine⟨_,rfl,dl,n1,20,rfl,k1,(by decide),(by decide),?_⟩;have aH:=D0.put R (n1 / 20);dsimp only[gq];generalize upd G1 dl (.lst [.int (n1 / 20)])=G2 at aH |-;obtain⟨wy,b5,ch⟩:∃wy:Nat,n1 % 20=(wy:Int)/\wy<20:=⟨(n1 % 20).toNat,by lia,by lia⟩
   rw[b5];refine bw [some (.ref ca),some (.ref X),some (.ref N),some (.ref hl),some (.ref g),some (.int n),some (.ref dl),some (.int (wy:Int)),z8,z9,k,J,L,I,D,s,p] _ ?_;clear bw D0;have hG:∀{a o},H a=some o->G a=some o:=fun h=>Z.e _ _ h;have low:=Z.low;rw[AC] at low;have ak:(((c::r).map fun c=>V.ref c.ce).reverse).length=r.length+1:=by rw[Eg,Ad,AC]
   refine g8 (a:=tAsg _ _) fun E3 ap _ _=>?_;have Y2:=Z.same aH.1;refine⟨_,rfl,_,rfl,g,_,_,_,rfl,rfl,SqL.of Y2.last,jd,(show 2<=sizeLine by decide),fun u hu=>?_⟩;obtain⟨G3,z1,W,k3⟩:=gr hu (.lst [V.int 2,V.int 3]);rw[z1];have D3:=aH.same W;have Y3:=Y2.same W;refine⟨_,rfl,_,rfl,g,_,_,_,rfl,rfl,SqL.of Y3.last,jd,c.ce,_,0,_,rfl,rfl,SqL.of Y3.hc,at0,rfl,_,rfl,?_⟩;obtain⟨he,cb,aT,aj⟩:∃(he:Addr) (j:Int),(atI [V.int 2,V.int 3] (if decide (V.str c.wd=V.str (Bf "else"))=true then 1 else 0)=some (.int j)/\atI [V.str c.wd,c.cd,.ref c.a,.ref c.b] j=some (.ref he))/\(he=c.a\/he=c.b):=by
    by_cases z:c.wd = "else"
    . rw[if_pos (decide_eq_true (show V.str c.wd=V.str (Bf "else") from congrArg V.str z))];exact⟨c.b,3,⟨rfl,rfl⟩,.inr rfl⟩
    . rw[if_neg (fun y=>z (V.str.inj (of_decide_eq_true y)))];exact⟨c.a,2,⟨rfl,rfl⟩,.inl rfl⟩
   refine⟨u,_,_,_,rfl,rfl,SqL.of k3,aT.1,c.ce,_,_,_,rfl,rfl,SqL.of Y3.hc,aT.2,?_⟩;dsimp only[gq];refine ap [some (.ref ca),some (.ref X),some (.ref N),some (.ref hl),some (.ref g),some (.int n),some (.ref dl),some (.int (wy:Int)),some (.ref he),z9,k,J,L,I,D,s,p] _ ?_;clear ap aT k3;clear aH Y2 W hu;obtain⟨e3,n3,k3⟩:=id D3;have fin:∀{G':Hp} {c':Bk} {r':List Bk} {m:Nat} {y9 aN aD aI aG aJ aA aK:Option V},BB K H G' xs g (c'::r') m->m<=i+1->∃(c:Bk) (r:List Bk) (z5 z6 z7 z8 z9 k J L I D s p:Option V),[some (.ref ca),some (.ref X),some (.ref N),some (.ref hl),some (.ref g),some (.int n),some (.ref dl),some (.int (wy:Int)),some (.ref he),y9,aN,aD,aI,aG,aJ,aA,aK]=[some (.ref ca),some (.ref X),some (.ref N),some (.ref hl),some (.ref g),z5,z6,z7,z8,z9,k,J,L,I,D,s,p]/\BB K H G' xs g (c::r) (i+1):=fun Z' hm=>⟨_,_,_,_,_,_,_,_,_,_,_,_,_,_,rfl,Z'.mono hm⟩
   have put:∀{G':Hp} {t:Addr} {d:Deed} {y9 aN aD aI aG aJ aA aK:Option V},BB K H G' xs g (c::r) i->DeedX K (rm (Og H (g::opn (c::r))) G') (ListX K (rm (Og H (g::opn (c::r))) G') (B (4 - r.length))) t d->Gd xs [d] 1->∃ts:List V,G' he=some (.lst ts)/\ts.length<sizeLine/\∃(c:Bk) (r:List Bk) (z5 z6 z7 z8 z9 k J L I D s p:Option V),[some (.ref ca),some (.ref X),some (.ref N),some (.ref hl),some (.ref g),some (.int n),some (.ref dl),some (.int (wy:Int)),some (.ref he),y9,aN,aD,aI,aG,aJ,aA,aK]=[some (.ref ca),some (.ref X),some (.ref N),some (.ref hl),some (.ref g),z5,z6,z7,z8,z9,k,J,L,I,D,s,p]/\BB K H (upd G' he (.lst (ts++[.ref t]))) xs g (c::r) (i+1):=fun {G' t d} y9 aN aD aI aG aJ aA aK Y hd hg=>by
    obtain⟨⟨_,⟨az,aE,ka,pa,gA⟩,⟨bm,a4,kb,pb,gB⟩⟩,_⟩:=Y.st;have cnt:=Y.cnt;unfold cntB at cnt;rw[Ar,Cm] at cnt;have ck:=AB pa;have cp:=AB pb;have sa:=gA.short;have sb:=gB.short;rcases aj with rfl|rfl
    . exact⟨_,ka,j6 (by rw[Ad];lia),fin (Y.appA ka hd hg) (Ak _)⟩
    . exact⟨_,kb,j6 (by rw[Ad];lia),fin (Y.appB kb hd hg) (Ak _)⟩
   have l6:((xs.xs.map V.str).length:Int)=6:=by rw[Ad,af];rfl
   have cl:0<os.length:=CL.mpr bp;have cu:0<xs.hs.length:=CL.mpr bY;refine u7 fun b1 ay=>?_;have au:=ay (by
    refine u7 fun b2 aM=>?_;have aP:=aM (by
     refine u7 fun b3 aC=>?_;have an:=aC (by
      refine u7 fun b4 a0=>?_;have ax:=a0 (by
       clear ay aM aC a0;refine g8 (a:=tAsg _ _) fun E4 am _ _=>?_;refine⟨(show 8<=sizeLine by decide),fun u hu=>?_⟩;have U:=gc hu (.lst (([("set" : Str),"read","write","new","free","set","new","read"]:List Str).map V.str));have k4:(upd G3 u (.lst (([("set" : Str),"read","write","new","free","set","new","read"]:List Str).map V.str))) u=some (.lst (([("set" : Str),"read","write","new","free","set","new","read"]:List Str).map V.str)):=ft;obtain⟨vw,bk,a1⟩:=mq (xs:=([("set" : Str),"read","write","new","free","set","new","read"]:List Str).map V.str) (m:=8) (i:=(wy:Int)) rfl (by decide);obtain⟨wd,aB,rfl⟩:=Az.mp a1;refine⟨_,rfl,_,_,rfl,rfl,(show (0:Int)<8 by decide),u,_,_,_,rfl,rfl,SqL.of k4,bk,?_⟩;dsimp only[gq];have D4:=D3.same U;refine am [some (.ref ca),some (.ref X),some (.ref N),some (.ref hl),some (.ref g),some (.int n),some (.ref dl),some (.int (wy:Int)),some (.ref he),z9,k,J,L,I,D,s,some (.str wd)] (upd G3 u (.lst (([("set" : Str),"read","write","new","free","set","new","read"]:List Str).map V.str))) ?_;clear am k4 bk a1;generalize upd G3 u (.lst (([("set" : Str),"read","write","new","free","set","new","read"]:List Str).map V.str))=G4 at U D4 |-;obtain⟨e4,n4,k4⟩:=id D4;have Y4:=Z.same e4;have a9:wd∈([("set" : Str),"read","write","new","free"]:List Str):=by
        simp only[Ah,Ay,or_false] at aB |-;rcases aB with h|h|h|h|h|h|h|h<;>simp[h]
       have ag:∃ts:List V,G4 he=some (.lst ts):=by
        obtain⟨⟨_,⟨az,aE,ka,_⟩,⟨bm,a4,kb,_⟩⟩,_⟩:=Y4.st;rcases aj with rfl|rfl
        . exact⟨_,ka⟩
        . exact⟨_,kb⟩
       obtain⟨b8,ag⟩:=ag;refine⟨_,rfl,.inl ⟨rfl,_,SqL.of ag⟩,?_⟩;refine⟨_,rfl,_,rfl,_,rfl,_,rfl,.mk dl X N n4 os xs.xs wd rfl k4 (e4 _ _ (hG aF)) (e4 _ _ (hG ac)) bp aL (fun z=>by rw[z] at af;cases af) (by lia) (by lia) (fun z=>by have y:=hG aF;rw[z,R] at y;cases y) (fun z=>by have y:=hG ac;rw[z,R] at y;cases y) a9 fun d n5 t G5 e5 k5 kt bi=>?_⟩;have aR:Same G G5:=fun b o z=>e5 _ _ (e4 _ _ z) (g6 z R);have Y5:=Z.same aR;have nt:¬ Og H (g::opn (c::r)) t:=fun z=>by
        rcases z with z|⟨vs,z⟩
        rotate_left
        . have y:=aR _ _ (Z.e _ _ z);rw[kt] at y;cases y
        obtain⟨o,ho⟩:=Z.live t z;have y:=aR _ _ ho;rw[kt] at y;rcases Ah.mp z with z|z
        . rw[z,Z.w] at ho;cases ho;cases y
        . have key:∀{cs:List Bk} {GG:Hp},StkAt K GG G xs cs->t∈opn cs->∃l,G t=some (.lst l):=by
           intro cs;induction cs with
           | nil=>intro GG _ h;cases h
           | cons c r ih =>
            intro GG h hx;obtain⟨⟨hc,⟨_,_,ha,_⟩,⟨_,_,hb,_⟩⟩,_,hs⟩:=h;rw[jk] at hx;simp only[Ah] at hx;rcases hx with hx|hx|hx|hx
            . exact⟨_,by rw[hx];exact hc⟩
            . exact⟨_,by rw[hx];exact ha⟩
            . exact⟨_,by rw[hx];exact hb⟩
            . exact ih hs hx
          obtain⟨l,bh⟩:=key Z.st z;rw[ho] at bh;cases bh;cases y
       obtain⟨ts,h1,h2,h3⟩:=put (d:=.plain (.row (rowD d))) Y5 (.plain _ (by show rm _ G5 t=_;rw[iz nt];exact kt) (adw ar bi)) (Gd.one (n:=0) ⟨d,rfl,bi⟩ (fun _=>Ak _) (fun _ _ h=>by cases h));exact⟨he,_,_,rfl,rfl,h1,h2,h3⟩)
      clear ay aM aC a0;refine⟨_,rfl,_,_,rfl,rfl,_,rfl,iteB (fun c1=>⟨_,_,rfl,rfl,_,rfl,iteB (fun S=>?_) (fun S=>ax)⟩) (fun c1=>⟨_,rfl,(if_neg Ai).mpr ax⟩)⟩;clear ax;obtain⟨al,aO,hpr⟩:=id (bP.same Z.e);have cg:=AB hpr;have lh:((al.map V.ref).length:Int)=(xs.hs.length:Int):=by rw[Ad,cg]
      refine g8 (a:=tAsg _ _) fun E4 am _ _=>?_;refine⟨_,rfl,_,rfl,_,rfl,hl,_,rfl,.inl (SqL.of (e3 _ _ aO)),dl,n3,((al.map V.ref).length:Int),rfl,k3,(by rw[lh];lia),(by rw[lh];exact Fk (show (xs.hs.length:Int)<=6 by lia) (by decide)),?_⟩;have D4:=D3.put R (n3 / ((al.map V.ref).length:Int));generalize upd G3 dl (.lst [.int (n3 / ((al.map V.ref).length:Int))])=G4 at D4 |-;obtain⟨e4,n4,k4⟩:=id D4;obtain⟨vh,bU,ao⟩:=mq (xs:=al.map V.ref) (m:=((al.map V.ref).length:Int)) (i:=n3) rfl (by rw[lh];lia);obtain⟨ht,bT,rfl⟩:=Az.mp ao;obtain⟨hj,bC⟩:=Cn bT;obtain⟨hd,b0,bS⟩:=Paired.nth hpr bC;have bs:hd∈xs.hs:=AE b0;obtain⟨co,cc⟩:=bH hd bs;refine⟨hl,_,_,_,rfl,rfl,SqL.of (e4 _ _ aO),bU,ht,_,rfl,SqT.of (e4 _ _ bS),rfl,_,_,rfl,_,_,rfl,_,_,rfl,rfl,?_⟩;refine am [some (.ref ca),some (.ref X),some (.ref N),some (.ref hl),some (.ref g),some (.int n),some (.ref dl),some (.int (wy:Int)),some (.ref he),z9,k,some (.str hd.1),some (.int (hd.2.1:Int)),some (.bl hd.2.2),D,s,p] _ ?_;clear am D3 e3 k3;refine g8 (a:=tAsg _ _) fun E5 av _ _=>?_;refine⟨_,rfl,_,rfl,_,rfl,X,_,rfl,.inl (SqL.of (e4 _ _ (hG aF))),dl,n4,((os.map V.str).length:Int),rfl,k4,(by rw[Ad];lia),(by rw[Ad];exact Fk (show (os.length:Int)<=6 by lia) (by decide)),?_⟩;have D5:=D4.put R (n4 / ((os.map V.str).length:Int));generalize upd G4 dl (.lst [.int (n4 / ((os.map V.str).length:Int))])=G5 at D5 |-;obtain⟨e5,n5,k5⟩:=id D5;obtain⟨vx,bZ,bL⟩:=mq (xs:=os.map V.str) (m:=((os.map V.str).length:Int)) (i:=n4) rfl (by rw[Ad];lia);obtain⟨x0,aU,rfl⟩:=Az.mp bL;refine⟨X,_,_,_,rfl,rfl,SqL.of (e5 _ _ (hG aF)),bZ,?_⟩;dsimp only[gq];refine av [some (.ref ca),some (.ref X),some (.ref N),some (.ref hl),some (.ref g),some (.int n),some (.ref dl),some (.int (wy:Int)),some (.ref he),z9,k,some (.str hd.1),some (.int (hd.2.1:Int)),some (.bl hd.2.2),some (.str x0),s,p] _ ?_;clear av D4 e4 k4;refine g8 (a:=tAsg _ _) fun E6 ba _ _=>?_;refine⟨_,rfl,(hd.2.1:Int),rfl,(by lia),(by lia),?_⟩;rw[Bo];refine a9j (fun y=>y∈xs.xs++[("nil" : Str)]) (by lia) R D5 (fun j G6 D6 Q' q'=>?_) (fun gl G6 ys D6 bV bN bA=>?_)
      . obtain⟨e6,n6,k6⟩:=id D6;refine⟨_,rfl,(show 1<=sizeLine by decide),fun u hu=>?_⟩;obtain⟨G7,z2,s7,k7⟩:=gr hu (.lst [V.str "nil"]);rw[z2];refine⟨N,u,_,_,rfl,rfl,s7 _ _ (e6 _ _ (hG ac)),k7,ia (by rw[Ad,af];decide),fun u2 ah=>?_⟩;obtain⟨G8,z3,s8,k8⟩:=gr ah (.lst (xs.xs.map V.str++[V.str "nil"]));rw[z3];have e8:=s7.trans s8;have l7:((xs.xs.map V.str).length:Int)+1=7:=by rw[l6];rfl
        refine⟨_,rfl,_,rfl,N,_,rfl,.inl (SqL.of (e8 _ _ (e6 _ _ (hG ac)))),_,_,rfl,rfl,dl,n6,((xs.xs.map V.str).length:Int)+1,rfl,e8 _ _ k6,(by rw[l7];decide),(by rw[l7];decide),?_⟩;rw[l7];obtain⟨ve,aW,ao⟩:=mq (xs:=xs.xs.map V.str++[V.str "nil"]) (m:=7) (i:=n6) (by rw[Aj,Ad,af];rfl) (by decide);obtain⟨e0,rfl,aQ⟩:∃e0:Str,ve=.str e0/\e0∈xs.xs++[("nil" : Str)]:=by
         rcases Ap.mp ao with z|z
         . obtain⟨y,hy,rfl⟩:=Az.mp z;exact⟨y,rfl,AD _ hy⟩
         . exact⟨_,Ao.mp z,AF _ (Ao.mpr rfl)⟩
        have nu:u2≠dl:=fun z=>by rw[z,s7 _ _ k6] at ah;cases ah
        refine⟨u2,_,_,_,rfl,rfl,SqL.of (by rw[fq nu];exact k8),aW,?_⟩;exact q' e0 _ (fun b o z nb=>by rw[fq nb];exact e8 _ _ z) ⟨_,ft⟩ aQ
      obtain⟨e6,n6,k6⟩:=id D6;refine ba [some (.ref ca),some (.ref X),some (.ref N),some (.ref hl),some (.ref g),some (.int n),some (.ref dl),some (.int (wy:Int)),some (.ref he),z9,k,some (.str hd.1),some (.int (hd.2.1:Int)),some (.bl hd.2.2),some (.str x0),some (.ref gl),p] _ ?_;clear ba D5 e5 k5;have ag:∃ts:List V,G6 he=some (.lst ts):=by
       obtain⟨⟨_,⟨az,aE,ka,_⟩,⟨bm,a4,kb,_⟩⟩,_⟩:=(Z.same e6).st;rcases aj with rfl|rfl
       . exact⟨_,ka⟩
       . exact⟨_,kb⟩
      obtain⟨b8,ag⟩:=ag;refine⟨_,rfl,.inl ⟨rfl,_,SqL.of ag⟩,?_⟩;refine⟨_,rfl,(show 2<=sizeLine by decide),fun u hu=>?_⟩;obtain⟨G7,z4,s7,k7⟩:=gr hu (.lst [V.str "",V.str x0]);rw[z4];obtain⟨rx,bO,ae⟩:∃rx:Str,atI [V.str "",V.str x0] (if hd.2.2=true then 1 else 0)=some (.str rx)/\(hd.2.2=true/\rx=x0\/hd.2.2=false/\rx = ""):=by
       cases hd.2.2 with
       | true=>exact⟨x0,rfl,.inl ⟨rfl,rfl⟩⟩
       | false=>exact⟨"",rfl,.inr ⟨rfl,rfl⟩⟩
      refine⟨_,rfl,_,rfl,u,_,_,_,rfl,rfl,SqL.of k7,bO,_,rfl,_,rfl,gl,_,rfl,.inl ⟨SqL.of (s7 _ _ bV),fun v hv=>?_⟩⟩;obtain⟨G8,y1,s8,k8⟩:=gr hv (.tup (ys.map V.str));rw[y1];refine⟨(show 4<=sizeLine by decide),fun t bb=>?_⟩;obtain⟨G9,y2,s9,k9⟩:=gr bb (.tup [.str "call",.str rx,.str hd.1,.ref v]);dsimp only;rw[y2];have e9:=((e6.trans s7).trans s8).trans s9;have nv:=Z.new ((e6.trans s7).free hv);have nt:=Z.new (((e6.trans s7).trans s8).free bb);have okn:Ok hd.1:=qh cc;have bj:Ok rx:=by
       rcases ae with⟨_,rfl⟩|⟨_,rfl⟩
       . exact ar _ (aL _ aU)
       . exact js _ (by simp)
      have bd:∀y∈ys,Ok y:=fun y hy=>(Ap.mp (bA y hy)).elim (fun z=>ar _ z) fun z=>by rw[Ao.mp z];exact js _ (by simp)
      have dg:DG xs (.plain (.call rx hd.1 ys)):=by
       refine⟨?_,bA,hd.2.2,by rw[bN];exact bs,?_,?_,?_⟩
       . rcases ae with⟨_,rfl⟩|⟨_,rfl⟩
         . exact .inr (aL _ aU)
         . exact .inl rfl
       . rcases ae with⟨h,_⟩|⟨_,h⟩
         . exact .inl h
         . exact .inr h
       . rcases ae with⟨h,_⟩|⟨_,h⟩
         . exact fun z=>by rw[h] at z;cases z
         . exact fun _=>h
       . rcases ae with⟨_,h⟩|⟨h,_⟩
         . exact fun _=>by rw[h];exact aL _ aU
         . exact fun z=>by rw[h] at z;cases z
      obtain⟨ts,h1,h2,h3⟩:=put (d:=.plain (.call rx hd.1 ys)) (Z.same e9) (.plain _ ⟨v,by rw[iz nt];exact k9,by rw[iz nv];exact s9 _ _ k8⟩ ⟨bj,okn,bd⟩) (Gd.one (n:=0) dg (fun _=>Ak _) (fun _ _ h=>by cases h));exact⟨he,_,_,rfl,rfl,h1,h2,h3⟩)
     clear aC;refine⟨_,rfl,_,_,rfl,rfl,_,rfl,iteB (fun c1=>⟨_,_,rfl,rfl,_,rfl,iteB (fun S=>⟨_,rfl,g,_,rfl,.inl (SqL.of Y3.w),_,_,rfl,rfl,_,rfl,iteB (fun cw=>?_) (fun c3=>an)⟩) (fun S=>?_)⟩) (fun c1=>?_)⟩
     . obtain⟨S,r2,rfl⟩:∃S r2,r=S::r2:=by
        cases r with
        | nil=>exact absurd (of_decide_eq_true cw) (by simp)
        | cons S r2=>exact⟨S,r2,rfl⟩
       exact⟨_,rfl,.mk H xs g c S r2 i rfl Y3 (by lia) ar fun H' b' Z'=>fin Z' (Bs _)⟩
     . exact (if_neg Ai).mpr an
     . exact⟨_,rfl,(if_neg Ai).mpr an⟩)
    clear aM;refine⟨_,rfl,rfl,_,rfl,iteB (fun c1=>⟨_,rfl,_,rfl,g,_,_,_,rfl,rfl,SqL.of Y3.last,jd,c.ce,_,0,_,rfl,rfl,SqL.of Y3.hc,at0,rfl,_,rfl,iteB (fun S=>?_) (fun S=>aP)⟩) (fun c1=>(if_neg Ai).mpr aP)⟩;refine⟨_,rfl,_,rfl,g,_,_,_,rfl,rfl,SqL.of Y3.last,jd,c.ce,_,0,0,rfl,rfl,Y3.hc,rfl,?_⟩;exact fin (Y3.word "else") (Bs _))
   clear ay;refine⟨_,rfl,_,_,rfl,rfl,_,rfl,iteB (fun c1=>⟨_,rfl,g,_,rfl,.inl (SqL.of Y3.w),_,_,rfl,rfl,_,rfl,iteB (fun S=>?_) (fun S=>au)⟩) (fun c1=>(if_neg Ai).mpr au)⟩;clear au;have cr:wy<5:=by have:=of_decide_eq_true c1;lia
   have b9:(c::r).length<5:=by have:=of_decide_eq_true S;rw[ak] at this;rw[AC];lia
   refine g8 (a:=tAsg _ _) fun E3 ap _ _=>?_;refine⟨_,rfl,(show 1<=sizeLine by decide),fun u hu=>?_⟩;obtain⟨G4,y3,U,k4⟩:=gr hu (.lst [V.str "nil"]);rw[y3];refine⟨N,u,_,_,rfl,rfl,U _ _ (e3 _ _ (hG ac)),k4,ia (by rw[Ad,af];decide),fun u2 ah=>?_⟩;obtain⟨G5,y4,s5,k5⟩:=gr ah (.lst (xs.xs.map V.str++[V.str "nil"]));rw[y4];have D5:=D3.same (U.trans s5);obtain⟨e5,n5,a5⟩:=id D5;have l7:((xs.xs.map V.str).length:Int)+1=7:=by rw[l6];rfl
   refine⟨_,rfl,_,rfl,N,_,rfl,.inl (SqL.of (e5 _ _ (hG ac))),_,_,rfl,rfl,dl,n5,((xs.xs.map V.str).length:Int)+1,rfl,a5,(by rw[l7];decide),(by rw[l7];decide),?_⟩;rw[l7];have D6:=D5.put R (n5 / 7);have nu:u2≠dl:=fun z=>by rw[z,U _ _ k3] at ah;cases ah
   have k6:(upd G5 dl (.lst [.int (n5 / 7)])) u2=some (.lst (xs.xs.map V.str++[V.str "nil"])):=by rw[fq nu];exact k5
   generalize upd G5 dl (.lst [.int (n5 / 7)])=G6 at D6 k6 |-;obtain⟨ve,aW,ao⟩:=mq (xs:=xs.xs.map V.str++[V.str "nil"]) (m:=7) (i:=n5) (by rw[Aj,Ad,af];rfl) (by decide);obtain⟨e0,rfl,aQ⟩:∃e0:Str,ve=.str e0/\e0∈xs.xs++[("nil" : Str)]:=by
    rcases Ap.mp ao with z|z
    . obtain⟨y,hy,rfl⟩:=Az.mp z;exact⟨y,rfl,AD _ hy⟩
    . exact⟨_,Ao.mp z,AF _ (Ao.mpr rfl)⟩
   refine⟨u2,_,_,_,rfl,rfl,SqL.of k6,aW,?_⟩;dsimp only[gq];refine ap [some (.ref ca),some (.ref X),some (.ref N),some (.ref hl),some (.ref g),some (.int n),some (.ref dl),some (.int (wy:Int)),some (.ref he),some (.str e0),k,J,L,I,D,s,p] _ ?_;clear ap D5 e5 a5 k5 k6 k4;refine g8 (a:=tAsg _ _) fun E5 av _ _=>?_;refine⟨(show 2<=sizeLine by decide),fun u3 aS=>?_⟩;have s7:=gc aS (.lst [V.str "is",V.str "not"]);have k7:(upd G6 u3 (.lst [V.str "is",V.str "not"])) u3=some (.lst [V.str "is",V.str "not"]):=ft;obtain⟨e6,n6,k6⟩:=id D6;generalize upd G6 u3 (.lst [V.str "is",V.str "not"])=G7 at s7 k7 |-;have D7:=D6.same s7;obtain⟨e7,n7,b7⟩:=id D7;refine⟨_,rfl,dl,n7,2,rfl,b7,(by decide),(by decide),?_⟩;have D8:=D7.put R (n7 / 2);have k8:(upd G7 dl (.lst [.int (n7 / 2)])) u3=some (.lst [V.str "is",V.str "not"]):=by rw[fq (fun z=>by rw[z,k6] at aS;cases aS)];exact k7
   generalize upd G7 dl (.lst [.int (n7 / 2)])=G8 at D8 k8 |-;obtain⟨vf,bD,a7⟩:=mq (xs:=[V.str "is",V.str "not"]) (m:=2) (i:=n7) rfl (by decide);obtain⟨f0,rfl,cf⟩:∃f0:Str,vf=.str f0/\(f0 = "is" \/ f0 = "not"):=by
    simp only[Ah,Ay,or_false] at a7;rcases a7 with z|z
    . exact⟨_,z,.inl rfl⟩
    . exact⟨_,z,.inr rfl⟩
   obtain⟨e8,n8,bR⟩:=id D8;refine⟨u3,_,_,_,rfl,rfl,SqL.of k8,bD,_,rfl,_,rfl,_,rfl,N,_,rfl,.inl (SqL.of (e8 _ _ (hG ac))),dl,n8,((xs.xs.map V.str).length:Int),rfl,bR,(by rw[l6];decide),(by rw[l6];decide),?_⟩;rw[l6];have D9:=D8.put R (n8 / 6);generalize upd G8 dl (.lst [.int (n8 / 6)])=G9 at D9 |-;obtain⟨e9,n9,ct⟩:=id D9;obtain⟨vy,bX,bQ⟩:=mq (xs:=xs.xs.map V.str) (m:=6) (i:=n8) l6 (by decide);obtain⟨y0,bI,rfl⟩:=Az.mp bQ;refine⟨N,_,_,_,rfl,rfl,SqL.of (e9 _ _ (hG ac)),bX,_,rfl,(show 3<=sizeLine by decide),fun cd hcd=>?_⟩;obtain⟨bu,y5,a3,aq⟩:=gr hcd (.tup [V.str f0,V.str y0,V.str e0]);change bu cd=some (.tup (([f0,y0,e0]:List Str).map V.str)) at aq;dsimp only[gq];rw[y5];have bM:lp xs [f0,y0,e0]:=⟨f0,y0,e0,rfl,cf,bI,aQ⟩
   refine av [some (.ref ca),some (.ref X),some (.ref N),some (.ref hl),some (.ref g),some (.int n),some (.ref dl),some (.int (wy:Int)),some (.ref he),some (.str e0),some (.ref cd),J,L,I,D,s,p] _ ?_;clear av;have bJ:G cd=none:=e9.free hcd;have eG:=e9.trans a3;have Y:=Z.same eG;clear D3 D6 D7 D8 D9;refine⟨_,rfl,.inl ⟨rfl,_,SqL.of Y.w⟩,(show 2<=sizeLine by decide),fun u hu=>?_⟩;obtain⟨bv,y6,s1,k1⟩:=gr hu (.lst [V.str "if",V.str "while"]);rw[y6];obtain⟨wd,aB⟩:∃wd:Str,atI [V.str "if",V.str "while"] ((wy:Int) / 3)=some (.str wd):=by
    by_cases z:wy<3
    . rw[show (wy:Int) / 3=0 by lia];exact⟨_,rfl⟩
    . rw[show (wy:Int) / 3=1 by lia];exact⟨_,rfl⟩
   refine⟨_,rfl,_,_,rfl,rfl,(show CDiv _ 3 from⟨by decide,by decide⟩),u,_,_,_,rfl,rfl,SqL.of k1,aB,_,rfl,(show 0<=sizeLine by decide),fun a' aV=>⟨(show 0<=sizeLine by decide),fun b' aw=>⟨(show 4<=sizeLine by decide),fun aZ O=>?_⟩⟩⟩;have s2:=gc aV (.lst []);have k2:(upd bv a' (.lst [])) a'=some (.lst []):=ft;generalize upd bv a' (.lst [])=bq at s2 k2 aw O |-;have W:=gc aw (.lst []);have k3:(upd bq b' (.lst [])) b'=some (.lst []):=ft;generalize upd bq b' (.lst [])=a8 at W k3 O |-;obtain⟨cn,y7,U,k4⟩:=gr O (.lst [.str wd,.ref cd,.ref a',.ref b']);dsimp only;rw[y7];have bt:=eG.trans s1;have bz:=bt.trans s2;have br:=bz.trans W;have bF:=(((s1.trans s2).trans W).trans U) _ _ aq;refine⟨g,_,_,rfl,rfl,(((s1.trans s2).trans W).trans U) _ _ Y.w,j6 (by rw[ak];lia),?_⟩;exact fin (Z.push (br.trans U) b9 (by simp) (br.free O) (bt.free aV) (bz.free aw) bJ (M (W _ _ k2) O) (M k3 O) (AL (M k2 aw)) bF ⟨AL (M ((s1.trans (s2.trans W)) _ _ aq) O),AL (M (s1 _ _ aq) aV),AL (M ((s1.trans s2) _ _ aq) aw)⟩ bM k4 ((W.trans U) _ _ k2) (U _ _ k3)) (Ak _)
 . rintro σ G ⟨c,r,z5,z6,z7,z8,z9,k,J,L,I,D,s,p,rfl,Z⟩;refine a2 _ _ ?_;clear a2;rw[Ad] at Z;refine g8 (a:=uz _ _) fun D3 b6 _ _=>?_;refine⟨fun m σ G=>∃(c:Bk) (r:List Bk),m=r.length/\σ=[some (.ref ca),some (.ref X),some (.ref N),some (.ref hl),some (.ref g),z5,z6,z7,z8,z9,k,J,L,I,D,s,p]/\BB K H G xs g (c::r) ns.length,⟨_,c,r,rfl,rfl,Z⟩,?_⟩;clear Z c r;rintro m σ G ⟨c,r,rfl,rfl,Z⟩;have ak:(((c::r).map fun c=>V.ref c.ce).reverse).length=r.length+1:=by rw[Eg,Ad,AC]
   refine⟨_,rfl,g,_,rfl,.inl (SqL.of Z.w),_,_,rfl,rfl,_,rfl,iteB (fun c1=>?_) (fun c1=>?_)⟩
   . obtain⟨S,r2,rfl⟩:∃S r2,r=S::r2:=by
      cases r with
      | nil=>exact absurd (of_decide_eq_true c1) (by simp)
      | cons S r2=>exact⟨S,r2,rfl⟩
     refine⟨fun σ' G'=>∃b',σ'=[some (.ref ca),some (.ref X),some (.ref N),some (.ref hl),some (.ref g),z5,z6,z7,z8,z9,k,J,L,I,D,s,p]/\BB K H G' xs g (b'::r2) ns.length,fun σ' G' hN=>?_,?_⟩
     . obtain⟨b',rfl,Z'⟩:=hN;exact⟨r2.length,Ci _,b',r2,rfl,rfl,Z'⟩
     . exact⟨_,rfl,.mk H xs g c S r2 ns.length rfl Z bE ar fun H' b' Z'=>⟨b',rfl,Z'⟩⟩
   . have e1:r=[]:=by
      cases r with
      | nil=>rfl
      | cons S r2=>exact absurd (show (((((c::S::r2).map fun c=>V.ref c.ce).reverse).length:Nat):Int)>1 by rw[ak,AC];lia) (of_decide_eq_false c1)
     subst e1;refine b6 _ _ ?_;refine⟨_,rfl,g,_,0,_,rfl,rfl,SqL.of Z.w,at0,c.ce,_,2,_,rfl,rfl,SqL.of Z.hc,rfl,?_⟩;obtain⟨⟨_,⟨az,aE,ka,pa,gA⟩,_⟩,_⟩:=Z.st;have cnt:=Z.cnt;unfold cntB at cnt;rw[Ar,Cm] at cnt;have sa:=gA.short;have hg:=gA.mono (n:=ns.length) (by lia);have sb:Same (rm (Og H (g::opn [c])) G) (rm (fun c=>∃vs,H c=some (.lst vs)) G):=a26 fun _ h=>.inr h;have bG:H c.a=none:=Z.fr _ (by rw[jk];simp);exact q c.a aE G Z.e ⟨az,by rw[iz (fun z=>by obtain⟨vs,z⟩:=z;rw[bG] at z;cases z)];exact ka,Paired.mapP pa fun _ _ z=>z.same sb fun _ _ y=>y.same sb,by rw[AB pa];lia⟩ hg
end K56
namespace L2
open PySem PySem.Spec PyProof.Rows
theorem vi(h:Vals xs us):∀a:List Nat,Vals (a.filterMap (xs[·]?)) (a.filterMap (us[·]?))
 | []=>.nil
 | i::a=>by
  cases e:xs[i]? with
  | none =>
   have b:us[i]? = none:=by
    rw[List.getElem?_eq_none_iff] at e |-;rw[<- h.length];exact e
   rw[G0 (f:=(xs[·]?)) e,G0 (f:=(us[·]?)) b];exact vi h a
  | some x =>
   obtain⟨u,b,r⟩:=h.get e;rw[GJ (f:=(xs[·]?)) e,GJ (f:=(us[·]?)) b];exact .cons r (vi h a)
def aes(K:Ac)(te:TE)(tl:TO)(ts:TE):TE:=fun σ H Q=>te σ H fun x H1=>tl σ H1 fun _ H2=>ts σ H2 fun y H3=>∃a xs k,x=.ref a/\y=.int k/\k≠0/\SqL K H3 a xs/\∀p ys,H3 p=none->(∀y∈ys,y∈xs)->ys.length<=xs.length->Q (.ref p) (upd H3 p (.lst ys))
theorem a94{K:Ac}(hK:X.K=K){lo:Option Expr}(Y:QE X e S)(hl:QO X lo tl)(hs:QE X (.Name y p3) ts):QE X (.Subscript e (.Slice lo none (some (.Name y p3)) p2) pos) (aes K S tl ts):=by
 subst hK;refine⟨fun c s σ H Q I h=>?_⟩;refine Subscript_ (thn (Y.run c s σ H _ I h) fun v F ⟨x,H1,J,P,q1⟩=>?_);refine wpAny_Slice (thn (hl.run c F σ H1 _ J q1) fun g s2 ⟨l,H2,O,pl,R⟩=>?_);rw[Ij];refine Ae ?_;rw[evalPart_some];refine thn (hs.run c s2 σ H2 _ O R) fun u d ⟨y,Z,p,L,U⟩=>?_;obtain⟨a,xs,k,rfl,rfl,M,N,q⟩:=U;cases P;obtain⟨t,rfl⟩:=L;obtain⟨its,r,ht,hz⟩:=p.list N;have C:=r.length;have D:Inv X c σ Z { d with heap:=d.heap.push { cls:=.type "slice",data:=.fields #[g,.none,.int k t] } }:=p.kept (t':=d.toks) fun b ob q=>Ab _ q;have j:JR (d.heap.push { cls:=.type "slice",data:=.fields #[g,.none,.int k t] }) a its.toArray:=ht.isList.push _;have n:FK { d with heap:=d.heap.push { cls:=.type "slice",data:=.fields #[g,.none,.int k t] } } (.ref a) "list" := Heap.IsList.typeIs (s:={ d with heap:=d.heap.push { cls:=.type "slice",data:=.fields #[g,.none,.int k t] } }) j;show wpAny (model X.prog X.w) X.A (subscriptTail e (.Slice lo none (some (.Name _ p3)) p2) (.ref a) (.ref d.heap.objs.size)) (EP X c σ Q) X.xe { d with heap:=d.heap.push { cls:=.type "slice",data:=.fields #[g,.none,.int k t] } };refine tail_any (ops:=[.ref a,.ref d.heap.objs.size]) n FS.lookup ?_ (by with_unfolding_all rfl);refine Gg j (IH ..) pl .none (.int k t) (by simpa using M) ?_ (by rw[Aq]<;>lia);have f:=slicePick_size_le its.toArray l none (some k);unfold slicePick at f |-;rw[Aq,Aq] at f;generalize sliceRange (sliceBounds l none (some k) its.toArray.size).1 (sliceBounds l none (some k) its.toArray.size).2.1 (sliceBounds l none (some k) its.toArray.size).2.2=m at f |-;have T:m.filterMap (its.toArray[·]?)=m.filterMap (its[·]?):=by simp
 rw[T] at f |-;have z:=vi r m;have E:=z.length;refine⟨.ref _,_,D.laid (t':=d.toks) (o:=.lst (m.filterMap (xs[·]?))) (fun b ob q=>Ab _ q) (Ak _) ?_,rfl,q _ _ (D.hok.fresh (Ak _)) (fun y G=>?_) (by lia)⟩
 . exact⟨by lia,_,0,z,An _ rfl⟩
 . obtain⟨i,_,hi⟩:=Iy.mp G;exact AE hi
end L2
namespace K56
open PySem PySem.Spec L2 Mir
abbrev abi:Stmt:=top 41
def qo(p:Prc):Str×Nat×Bool:=(p.name,p.ps.length,decide (p.res ≠ ""))
structure PcOk(xs:List Str)(hs:List (Str×Nat×Bool))(p:Prc):Prop where
 pl:p.ps.length<=2
 pn:p.ps.Nodup
 px:∀y∈p.ps,y∈xs
 nm:p.name∈xs
 res:p.res = "" \/ p.res∈xs
 tl:p.F1=[]/\p.P1=[]/\p.F2=[]/\p.P2=[]
 bd:Gd ⟨xs,hs⟩ p.body 28
structure PcsOk(xs:List Str)(pcs:List Prc):Prop where
 ok:∀p∈pcs,PcOk xs (pcs.map qo) p
 nn:(pcs.map (·.name)).Nodup
 l1:1<=pcs.length
 l3:pcs.length<=3
theorem InD.mono(h:∀y∈xs,y∈ys)(hd:InD xs d):InD ys d:=by
 have e:∀{y:Str},y∈xs++[("nil" : Str)]->y∈ys++[("nil" : Str)]:=fun a=>(Ap.mp a).elim (fun z=>AD _ (h _ z)) fun z=>AF _ z;cases d with
 | set x y=>exact⟨h _ hd.1,e hd.2⟩
 | read x y f=>exact⟨h _ hd.1,h _ hd.2.1,hd.2.2⟩
 | write y f z=>exact⟨h _ hd.1,hd.2.1,e hd.2.2⟩
 | new x y z=>exact⟨h _ hd.1,e hd.2.1,e hd.2.2⟩
 | free y=>exact h _ hd
theorem DG.mono(h:∀y∈xs,y∈ys)(hd:DG ⟨xs,hs⟩ d):DG ⟨ys,hs⟩ d:=by
 have e:∀{y:Str},y∈xs++[("nil" : Str)]->y∈ys++[("nil" : Str)]:=fun n=>(Ap.mp n).elim (fun z=>AD _ (h _ z)) fun z=>AF _ z;have c:∀{r:List Str},lp ⟨xs,hs⟩ r->lp ⟨ys,hs⟩ r:=fun⟨f,x,y,j,i,k,l⟩=>⟨f,x,y,j,i,h _ k,e l⟩
 cases d with
 | plain q =>
  cases q with
  | row r=>obtain⟨d,j,i⟩:=hd;exact⟨d,j,i.mono h⟩
  | call x cc vs =>
   obtain⟨j,i,g,k,l,m,p⟩:=hd;exact⟨j.imp id (h _),fun v o=>e (i v o),g,k,l,m,fun z=>h _ (p z)⟩
 | cond r a b=>exact c hd
 | loop r F P a=>exact⟨c hd.1,hd.2⟩
theorem a9z(xs:List Str)(i j:Nat):cutV (xs.map V.str) (some (i:Int)) (some (j:Int))=((xs.drop (min i xs.length)).take (min j xs.length - min i xs.length)).map V.str:=by
 unfold cutV;rw[HT.sIx_nat,HT.sIx_nat,Ad,FO,Ik]
theorem a8v(ns:List Int)(i j:Nat):∃a:List Int,cutV (ns.map V.int) (some (i:Int)) (some (j:Int))=a.map V.int/\a.length<=j - i:=by
 refine⟨(ns.drop (min i ns.length)).take (min j ns.length - min i ns.length),?_,?_⟩
 . unfold cutV;rw[HT.sIx_nat,HT.sIx_nat,Ad,FO,Ik]
 . rw[AQ];lia
theorem adh{a:List Int}(h:∀y∈ys,y∈a.map V.int):∃ks:List Int,ys=ks.map V.int:=by
 induction ys with
 | nil=>exact⟨[],rfl⟩
 | cons y ys ih =>
  obtain⟨ks,rfl⟩:=ih fun z hz=>h z (Al _ hz);obtain⟨k,_,rfl⟩:=Az.mp (h y Af);exact⟨k::ks,rfl⟩
inductive spProg(K:Ac)(vs:List V)(H:Hp)(Q:VK)(E:XK):Prop
 | mk (a nl:Addr)(ns:List Int)(st:Nat)(xs:List Str)(h0:vs=[.ref a,.int (st:Int),.ref nl])(h1:SqL K H a (ns.map V.int))(h2:H nl=some (.lst (xs.map V.str)))(h3:xs.length=6)(h4:xs.Nodup)(h5:∀x∈xs,i5 x=true)(h6:st<=100)(q:∀l ts pcs H',Same H H'->H' l=some (.lst ((ts:List Addr).map V.ref))->Paired (PrcAt K H' (B 5)) ts pcs->PcsOk xs pcs->Q (.ref l) H'):spProg K vs H Q E
theorem ad2(C:Con K mg w)(F:Fun K "_law_program" "_law_program" abi f fd)(GC:FnOk P w K mg base CX0 1 gC dC ["_law_script","_law_k"] (sn K))(cC:Cal K mg "_law_cell_at" gC dC ["_law_script","_law_k"])(GB:FnOk P w K mg base CX0 3 gB dB ["_law_cells","_law_own","_law_every","_law_heads"] (spBody K))(cB:Cal K mg "_law_body" gB dB ["_law_cells","_law_own","_law_every","_law_heads"]):FnOk P w K mg base CX0 4 f fd ["_law_script","_law_start","_law_names_here"] (spProg K):=by
 refine F.okA ["_law_script","_law_start","_law_names_here","_law_first","_law_many","_law_heads","_law_k","_law_program_here","_law_name","_law_params","_law_gives","_law_turn","_law_every","_law_cells","_law_body_here","_law_result"] fun bX A outer s0 H vs Q E hr h nd=>?_;obtain⟨a,L,ns,st,xs,rfl,hS,ap,bq,aY,S,bS,q⟩:=h;have bO:=kx hr;have bM:=hr.mono (j:=1) (by lia);refine⟨_,fw (gp 3 nd (gk GC bM cC (fy (qv 0) (fy (qv 1) ad))))
  (fw (gp 4 nd (gh ij fu (gh jo (qv 3) fu)))
  (fw (gp 5 nd (i8 ad))
  (fw (jw AO rfl (kd rfl C.range (fy (qv 4) ad)) (jc 6 nd) (fz (ik (ke (K:=K) rfl AM BC BD kg (qv 5) (oi (gj (i0 K (qv 2) (qv 6)) (jb (gh jo (gh lq (qv 3) (i0 K (i8 (gs (gs (gs ad)))) (qv 6))) fu) (jf (oh ib (gh jo (gh lq (qv 3) (i0 K (i8 (gs (gs (gs ad)))) (qv 6))) fu) fu (gn _)) ad))) ad)))))
  (fw (gp 7 nd (i8 ad))
  (fw (jw AO rfl (kd rfl C.range (fy (qv 4) ad)) (jc 6 nd) (fw (pi (i0 K (qv 5) (qv 6)) (a37 (jc 8 nd) (jc 9 nd) (jc 10 nd)))
  (fw (gp 11 nd (gh ij (gh jo (gh lq (qv 3) fu) fu) (qv 6)))
  (fw (gp 12 nd (gh ky (j8 (qw (K:=K) rfl) (qv 2) (j7 (gh jo (qv 11) fu)) (j7 fu)) (j8 (qw (K:=K) rfl) (qv 2) jn (j7 (gh jo (qv 11) fu)))))
  (fw (gp 13 nd (a94 (K:=K) rfl (j8 (qw (K:=K) rfl) (qv 0) (j7 (gh ij (gh ij (qv 1) fu) (qv 6))) (j7 (gh ij (qv 1) fu))) jn (qv 4)))
  (fw (gp 14 nd (gk GB hr cB (fy (qv 13) (gj (j8 (qw (K:=K) rfl) (qv 12) (j7 (qv 9)) jn) (fy (qv 12) (fy (qv 5) ad))))))
  (fw (gp 15 nd (i0 K (i8 (i9 (gj (i0 K (qv 12) fu) ad))) (i6 mr rfl C.int Dh (fy (qv 10) ad))))
  (fz (ik (ke (K:=K) rfl AM BC BD kg (qv 7) (oi (fy (qv 8) (gw (i6 q5 rfl C.tuple EE (gj (j8 (qw (K:=K) rfl) (qv 12) jn (j7 (qv 9))) ad)) (fy (qv 15) (oi (mx ad (mx ad ad)) (oi (mx ad (mx ad ad)) (fy (qv 14) ad)))))) ad)))))))))))
  (fz (gu (qv 7)))))))),?_⟩
 have Y:∀(x:Int) (m:Int),0<m->∃j:Nat,x % m=(j:Int)/\(j:Int)<m:=fun x m hm=>⟨(x % m).toNat,by have:=B8 x (Ex hm);lia,by have:=B8 x (Ex hm);have:=Bz x hm;lia⟩
 refine g8 (a:=tAsg _ _) fun A1 aH _ _=>?_;refine⟨_,rfl,_,rfl,a,ns,st,rfl,hS,?_⟩;generalize kn ns st=I;refine aH [some (.ref a),some (.int (st:Int)),some (.ref L),some (.int I),none,none,none,none,none,none,none,none,none,none,none,none] _ ?_;clear aH;refine g8 (a:=tAsg _ _) fun A2 aK _ _=>?_;refine⟨_,rfl,_,_,rfl,rfl,(show (0:Int)<3 by decide),_,_,rfl,rfl,?_⟩;obtain⟨j0,bo,bP⟩:=Y I 3 (by decide);dsimp only[gq];rw[bo,show (1:Int)+(j0:Int)=((1+j0:Nat):Int) by lia];obtain⟨g,ao,bW,bQ⟩:∃m:Nat,1+j0=m/\1<=m/\m<=3:=⟨_,rfl,by lia,by lia⟩
 rw[ao];refine aK [some (.ref a),some (.int (st:Int)),some (.ref L),some (.int I),some (.int (g:Int)),none,none,none,none,none,none,none,none,none,none,none] _ ?_;clear aK;refine g8 (a:=tAsg _ _) fun A3 aW _ _=>?_;refine⟨AH _,fun hl ax=>?_⟩;obtain⟨H1,z0,s1,k1⟩:=gr ax (.lst []);dsimp only[gq];rw[z0];refine aW [some (.ref a),some (.int (st:Int)),some (.ref L),some (.int I),some (.int (g:Int)),some (.ref hl),none,none,none,none,none,none,none,none,none,none] _ ?_;clear aW;refine g8 (a:=tFor _ _ _) fun A4 aN _ _=>?_;refine⟨_,rfl,(g:Int),rfl,(by lia),(by lia),?_⟩;rw[Bo];refine ku (fun i σ G=>∃(ts:List Addr) (hs:List (Str×Nat×Bool)) (z6:Option V),σ=[some (.ref a),some (.int (st:Int)),some (.ref L),some (.int I),some (.int (g:Int)),some (.ref hl),z6,none,none,none,none,none,none,none,none,none]/\Same H G/\G hl=some (.lst (ts.map V.ref))/\Paired (fun t (h:Str×Nat×Bool)=>G t=some (.tup [.str h.1,.int (h.2.1:Int),.bl h.2.2])) ts hs/\hs.length=i/\∀(j:Nat) h,hs[j]? = some h->xs[j]? = some h.1/\h.2.1<=2) ⟨[],[],none,rfl,s1,k1,.nil,rfl,fun j h z=>by cases z⟩ ?_ ?_
 . rintro i σ G hi ⟨ts,hs,z6,rfl,eG,kG,pr,bb,hok⟩;rw[Ez];have bf:i<3:=by lia
   obtain⟨y,R⟩:∃y,xs[i]? = some y:=⟨_,Ag (by lia)⟩
   have bJ:atI (xs.map V.str) (i:Int)=some (.str y):=jg (by rw[Am,R];rfl);have pick:∀(x0 x1 x2:Int),∃v,atI [V.int x0,V.int x1,V.int x2] (i:Int)=some (.int v)/\(v=x0\/v=x1\/v=x2):=fun x0 x1 x2=>by
    match i,bf with
    | 0,_=>exact⟨x0,rfl,.inl rfl⟩
    | 1,_=>exact⟨x1,rfl,.inr (.inl rfl)⟩
    | 2,_=>exact⟨x2,rfl,.inr (.inr rfl)⟩
   obtain⟨v1,bA,aX⟩:=pick 3 9 27;obtain⟨v2,bu,a9⟩:=pick 81 162 324;refine⟨_,rfl,.inl ⟨rfl,_,SqL.of kG⟩,_,rfl,_,rfl,L,_,_,_,rfl,rfl,SqL.of (eG _ _ ap),bJ,_,rfl,(show 3<=sizeLine by decide),fun u hu=>?_⟩;obtain⟨G2,z3,s2,k2⟩:=gr hu (.lst [V.int 3,V.int 9,V.int 27]);rw[z3];refine⟨_,rfl,u,_,_,_,rfl,rfl,SqL.of k2,bA,_,_,rfl,rfl,(show CDiv _ v1 from by rcases aX with rfl|rfl|rfl<;>exact⟨by decide,by decide⟩),_,_,rfl,rfl,(show (0:Int)<3 by decide),_,rfl,(show 3<=sizeLine by decide),fun u' bn=>?_⟩;obtain⟨G3,z4,s3,k3⟩:=gr bn (.lst [V.int 81,V.int 162,V.int 324]);rw[z4];refine⟨_,rfl,u',_,_,_,rfl,rfl,SqL.of k3,bu,_,_,rfl,rfl,(show CDiv _ v2 from by rcases a9 with rfl|rfl|rfl<;>exact⟨by decide,by decide⟩),_,_,rfl,rfl,(show (0:Int)<2 by decide),rfl,(show 3<=sizeLine by decide),fun t ht=>?_⟩;obtain⟨np,be,bN⟩:=Y (I / v1) 3 (by decide);dsimp only;rw[be];generalize decide (V.int (I / v2 % 2)=V.int 1)=gv;obtain⟨G4,z5,s4,k4⟩:=gr ht (.tup [.str y,.int (np:Int),.bl gv]);rw[z5];have e4:=(s2.trans s3).trans s4;have tl:=AB pr;refine⟨hl,_,_,rfl,rfl,e4 _ _ kG,j6 (by rw[Ad];lia),ts++[t],hs++[(y,np,gv)],_,rfl,fun b o z=>?_,?_,?_,by rw[Aj,bb];rfl,fun j h hj=>?_⟩
   . rw[fq (g6 z ax)];exact e4 _ _ (eG _ _ z)
   . rw[ft,Au];rfl
   . have keep:∀{b:Addr} {vs:List V},G4 b=some (.tup vs)->(upd G4 hl (.lst (ts.map V.ref++[.ref t]))) b=some (.tup vs):=fun {b vs} h=>by rw[fq (fun z=>by rw[z,e4 _ _ kG] at h;cases h)];exact h
     exact Paired.snocP (Paired.mapP pr fun _ _ z=>keep (e4 _ _ z)) (keep k4)
   . rcases Gz j hs.length with z|z
     . rw[FX z] at hj;exact hok j h hj
     . rw[FH z] at hj;have e0:j - hs.length=0:=by
        rcases IM (j - hs.length) with w|w
        . exact w
        . rw[Bu (show[(y,np,gv)].length<=_ from w)] at hj;cases hj
       rw[e0] at hj;cases hj;have:j=i:=by lia
       rw[this];exact⟨R,by show np<=2;lia⟩
 rintro σ H2 ⟨a1,hs,z6,rfl,e2,aP,hpr,Z,hok⟩;refine aN _ _ ?_;clear aN s1 k1;have HA:HeadsAt H2 hl hs:=⟨a1,aP,hpr⟩
 have bY:=AB hpr;refine g8 (a:=tAsg _ _) fun A5 aD _ _=>?_;refine⟨AH _,fun l aO=>?_⟩;obtain⟨H3,z7,s3,k3⟩:=gr aO (.lst []);dsimp only[gq];rw[z7];refine aD [some (.ref a),some (.int (st:Int)),some (.ref L),some (.int I),some (.int (g:Int)),some (.ref hl),z6,some (.ref l),none,none,none,none,none,none,none,none] _ ?_;clear aD;refine g8 (a:=tFor _ _ _) fun A6 bI _ _=>?_;refine⟨_,rfl,(g:Int),rfl,(by lia),(by lia),?_⟩;rw[Bo];refine ku (fun i σ G=>∃(ts:List Addr) (pcs:List Prc) (z6 z8 z9 al ah ae n J D:Option V),σ=[some (.ref a),some (.int (st:Int)),some (.ref L),some (.int I),some (.int (g:Int)),some (.ref hl),z6,some (.ref l),z8,z9,al,ah,ae,n,J,D]/\Same H2 G/\G l=some (.lst (ts.map V.ref))/\Paired (PrcAt K (rm (fun b=>b=l) G) (B 5)) ts pcs/\pcs.length=i/\pcs.map qo=hs.take i/\∀p∈pcs,PcOk xs hs p) ⟨[],[],z6,none,none,none,none,none,none,none,none,rfl,s3,k3,.nil,rfl,by rw[DQ];rfl,fun p z=>by cases z⟩ ?_ ?_
 . rintro i σ G hi ⟨ts,pcs,z6,z8,z9,al,ah,ae,n,J,D,rfl,eG,kl,pr,aR,ac,aw⟩;rw[Ez];dsimp only[gq];have am:=e2.trans eG;obtain⟨hd,aq⟩:∃h,hs[i]? = some h:=⟨_,Ag (by lia)⟩
   obtain⟨ht,az⟩:∃h,a1[i]? = some h:=⟨_,Ag (by lia)⟩
   have bv:=Paired.at2 hpr az aq;obtain⟨bk,bT⟩:=hok i hd aq;have a0:hd.1∈xs:=AE bk;refine g8 (a:=tAsg _ _) fun B1 a8 _ _=>?_;refine⟨_,rfl,_,rfl,hl,_,_,_,rfl,rfl,SqL.of (eG _ _ aP),jg (by rw[Am,az];rfl),ht,_,rfl,SqT.of (eG _ _ bv),rfl,_,_,rfl,_,_,rfl,_,_,rfl,rfl,?_⟩;refine a8 [some (.ref a),some (.int (st:Int)),some (.ref L),some (.int I),some (.int (g:Int)),some (.ref hl),some (.int (i:Int)),some (.ref l),some (.str hd.1),some (.int (hd.2.1:Int)),some (.bl hd.2.2),ah,ae,n,J,D] _ ?_;clear a8;refine g8 (a:=tAsg _ _) fun B2 a2 _ _=>?_;refine⟨_,rfl,_,_,rfl,rfl,(show CDiv _ 648 from⟨by decide,by decide⟩),_,_,rfl,rfl,(show (0:Int)<6 by decide),_,rfl,_,_,rfl,rfl,?_⟩;dsimp only[gq];generalize I / 648 % 6+(i:Int)=tn;refine a2 [some (.ref a),some (.int (st:Int)),some (.ref L),some (.int I),some (.int (g:Int)),some (.ref hl),some (.int (i:Int)),some (.ref l),some (.str hd.1),some (.int (hd.2.1:Int)),some (.bl hd.2.2),some (.int tn),ae,n,J,D] _ ?_;clear a2;obtain⟨t,aL,bR⟩:=Y tn 6 (by decide);have bc:t<6:=by lia
   refine g8 (a:=tAsg _ _) fun B3 aA _ _=>?_;refine⟨_,rfl,_,rfl,_,_,rfl,rfl,(show (0:Int)<6 by decide),?_⟩;refine⟨(t:Int),congrArg V.int aL,((6:Nat):Int),rfl,L,_,rfl,SqL.of (am _ _ ap),fun p1 bi=>?_⟩;have c1:cutV (xs.map V.str) (some (t:Int)) (some ((6:Nat):Int))=(xs.drop t).map V.str:=by
    rw[a9z,bq,Df (BK bc),IR,Bg (by rw[Bc];lia)]
   rw[c1];obtain⟨G4,y0,s4,k4⟩:=gr bi (.lst ((xs.drop t).map V.str));rw[y0];refine⟨_,rfl,_,rfl,_,_,rfl,rfl,(show (0:Int)<6 by decide),?_⟩;refine⟨(t:Int),congrArg V.int aL,L,_,rfl,SqL.of (s4 _ _ (am _ _ ap)),fun p2 bz=>?_⟩;rw[a25 xs t (by lia)];obtain⟨G5,y1,s5,k5⟩:=gr bz (.lst ((xs.take t).map V.str));rw[y1];refine⟨p1,p2,_,_,rfl,rfl,s5 _ _ k4,k5,ia (by rw[Ad,Ad,Bc,AQ];lia),fun U bL=>?_⟩;rw[<- Au];generalize hys:xs.drop t++xs.take t=ys;have W:∀y∈ys,y∈xs:=fun y R=>by
    rw[<- hys] at R;exact (Ap.mp R).elim CI BV
   have bG:ys.length=6:=by rw[<- hys,Aj,Bc,AQ];lia
   have bC:ys.Nodup:=by
    rw[<- hys];have h:=aY;rw[<- HR t xs] at h;exact (List.perm_append_comm.nodup_iff).mp h
   obtain⟨G6,y2,s6,k6⟩:=gr bL (.lst (ys.map V.str));dsimp only[gq];rw[y2];have e6:=(s4.trans s5).trans s6;refine aA [some (.ref a),some (.int (st:Int)),some (.ref L),some (.int I),some (.int (g:Int)),some (.ref hl),some (.int (i:Int)),some (.ref l),some (.str hd.1),some (.int (hd.2.1:Int)),some (.bl hd.2.2),some (.int tn),some (.ref U),n,J,D] _ ?_;clear aA s4 s5 s6 k4 k5 c1;refine g8 (a:=tAsg _ _) fun B4 aI _ _=>?_;have bD:(st:Int)+1+(i:Int)=((st+1+i:Nat):Int):=by lia
   have bh:(st:Int)+27=((st+27:Nat):Int):=by lia
   refine⟨_,rfl,_,rfl,_,_,rfl,rfl,_,rfl,_,_,rfl,rfl,?_⟩;refine⟨((st+1+i:Nat):Int),congrArg V.int bD,_,rfl,_,_,rfl,rfl,((st+27:Nat):Int),congrArg V.int bh,a,_,rfl,(am.trans e6).seq hS,fun p3 bw=>?_⟩;obtain⟨ms,bF,bV⟩:=a8v ns (st+1+i) (st+27);rw[bF];obtain⟨G7,y3,s7,k7⟩:=gr bw (.lst (ms.map V.int));rw[y3];refine⟨_,rfl,p3,_,_,rfl,rfl,(by lia),SqL.of k7,fun ca bU bj bE bH=>?_⟩;obtain⟨ks,rfl⟩:=adh bE;obtain⟨G8,y4,s8,k8⟩:=gr bj (.lst (ks.map V.int));dsimp only[gq];rw[y4];rw[Ad,Ad] at bH;have e8:=e6.trans (s7.trans s8);refine aI [some (.ref a),some (.int (st:Int)),some (.ref L),some (.int I),some (.int (g:Int)),some (.ref hl),some (.int (i:Int)),some (.ref l),some (.str hd.1),some (.int (hd.2.1:Int)),some (.bl hd.2.2),some (.int tn),some (.ref U),some (.ref ca),J,D] _ ?_;clear aI;have T:=(s7.trans s8) _ _ k6;refine g8 (a:=tAsg _ _) fun B5 aE _ _=>?_;refine⟨_,rfl,_,rfl,_,rfl,(hd.2.1:Int),rfl,U,_,rfl,SqL.of T,fun ow bx=>?_⟩;rw[a2e,<- Ik];obtain⟨G9,y6,s9,k9⟩:=gr bx (.lst ((ys.drop hd.2.1).map V.str));rw[y6];have e9:=e8.trans s9;have ay:hs≠[]:=fun z=>by rw[z] at Z;simp at Z;lia
   refine⟨_,rfl,_,rfl,.mk ca ow U hl ks (ys.drop hd.2.1) ⟨ys,hs⟩ rfl (s9 _ _ k8) (by lia) k9 (fun z=>by have:=congrArg Hl z;rw[Bc,Ek] at this;lia) (fun y R=>CI R) (by rw[Bc];lia) (s9 _ _ T) bG (fun y R=>S _ (W y R)) (HA.same (eG.trans e9)) ay (by show hs.length<=6;lia) (fun h hh=>?_) fun bd ds a5 aJ hL hg=>?_⟩
   . obtain⟨j,hj⟩:=Cn hh;obtain⟨h1,h2⟩:=hok j h hj;exact⟨by lia,S _ (AE h1)⟩
   dsimp only[gq];refine aE [some (.ref a),some (.int (st:Int)),some (.ref L),some (.int I),some (.int (g:Int)),some (.ref hl),some (.int (i:Int)),some (.ref l),some (.str hd.1),some (.int (hd.2.1:Int)),some (.bl hd.2.2),some (.int tn),some (.ref U),some (.ref ca),some (.ref bd),D] _ ?_;clear aE;have aa:=aJ _ _ (s9 _ _ T);refine g8 (a:=tAsg _ _) fun B6 aS _ _=>?_;obtain⟨y5,aC⟩:∃y,ys[5]? = some y:=⟨_,Ag (by lia)⟩
   refine⟨_,rfl,U,_,5,.str y5,rfl,rfl,SqL.of aa,jg (j:=5) (by rw[Am,aC];rfl),(show 2<=sizeLine by decide),fun u hu=>?_⟩;obtain⟨av,y7,af,a7⟩:=gr hu (.lst [V.str "",V.str y5]);rw[y7];have a6:y5∈xs:=W _ (AE aC);have bB:y5 ≠ "" := fun z=>by have:=S _ a6;rw[z] at this;exact absurd this (by decide +kernel)
   obtain⟨N,br,aj,aF⟩:∃N:Str,atI [V.str "",V.str y5] (if hd.2.2=true then 1 else 0)=some (.str N)/\(N = "" \/ N∈xs)/\decide (N ≠ "")=hd.2.2:=by
    cases hd.2.2 with
    | true=>exact⟨y5,rfl,.inr a6,decide_eq_true bB⟩
    | false=>exact⟨"",rfl,.inl rfl,decide_eq_false fun z=>z rfl⟩
   refine⟨_,rfl,_,rfl,u,_,_,_,rfl,rfl,SqL.of a7,br,?_⟩;dsimp only[gq];refine aS [some (.ref a),some (.int (st:Int)),some (.ref L),some (.int I),some (.int (g:Int)),some (.ref hl),some (.int (i:Int)),some (.ref l),some (.str hd.1),some (.int (hd.2.1:Int)),some (.bl hd.2.2),some (.int tn),some (.ref U),some (.ref ca),some (.ref bd),some (.str N)] _ ?_;clear aS;have au:=(e9.trans aJ).trans af;refine⟨_,rfl,.inl ⟨rfl,_,SqL.of (au _ _ kl)⟩,_,rfl,_,rfl,_,rfl,(hd.2.1:Int),rfl,U,_,rfl,SqL.of (af _ _ aa),fun p4 bm=>?_⟩;rw[a25 ys hd.2.1 (by lia)];obtain⟨aZ,y8,ar,aT⟩:=gr bm (.lst ((ys.take hd.2.1).map V.str));rw[y8];refine⟨p4,_,rfl,.inl ⟨SqL.of aT,fun pa a3=>?_⟩⟩;obtain⟨an,y9,aQ,a4⟩:=gr a3 (.tup ((ys.take hd.2.1).map V.str));rw[y9];refine⟨_,rfl,(show 0<=sizeLine by decide),fun f1 aU=>⟨(show 0<=sizeLine by decide),fun q1 hq1=>⟨(show 2<=sizeLine by decide),fun t1 ag=>⟨(show 0<=sizeLine by decide),fun f2 ab=>⟨(show 0<=sizeLine by decide),fun q2 O=>⟨(show 2<=sizeLine by decide),fun t2 M=>⟨_,rfl,(show 6<=sizeLine by decide),fun tt r=>?_⟩⟩⟩⟩⟩⟩⟩;have w1:=gc aU (.lst []);have x1:(upd an f1 (.lst [])) f1=some (.lst []):=ft;generalize upd an f1 (.lst [])=J1 at w1 x1 hq1 ag ab O M r |-;have w2:=gc hq1 (.lst []);have x2:(upd J1 q1 (.lst [])) q1=some (.lst []):=ft;generalize upd J1 q1 (.lst [])=J2 at w2 x2 ag ab O M r |-;have w3:=gc ag (.tup [.ref f1,.ref q1]);have x3:(upd J2 t1 (.tup [.ref f1,.ref q1])) t1=some (.tup [.ref f1,.ref q1]):=ft;generalize upd J2 t1 (.tup [.ref f1,.ref q1])=J3 at w3 x3 ab O M r |-;have w4:=gc ab (.lst []);have x4:(upd J3 f2 (.lst [])) f2=some (.lst []):=ft;generalize upd J3 f2 (.lst [])=J4 at w4 x4 O M r |-;have w5:=gc O (.lst []);have x5:(upd J4 q2 (.lst [])) q2=some (.lst []):=ft;generalize upd J4 q2 (.lst [])=J5 at w5 x5 M r |-;have w6:=gc M (.tup [.ref f2,.ref q2]);have x6:(upd J5 t2 (.tup [.ref f2,.ref q2])) t2=some (.tup [.ref f2,.ref q2]):=ft;generalize upd J5 t2 (.tup [.ref f2,.ref q2])=J6 at w6 x6 r |-;obtain⟨J7,x8,w7,x7⟩:=gr r (.tup [.str hd.1,.ref pa,.str N,.ref t1,.ref t2,.ref bd]);dsimp only;rw[x8];have aB:=w6.trans w7;have aV:=w5.trans aB;have aM:=w4.trans aV;have aG:=w3.trans aM;have ba:=w2.trans aG;have ak:=w1.trans ba;have n:=ar.trans aQ;have eJ:=(au.trans n).trans ak;have s:∀{b:Addr} {o:HO},J7 b=some o->G b=none->(rm (fun c=>c=l) J7) b=some o:=fun {b o} h hn=>by
    rw[iz (fun z=>by rw[z,kl] at hn;cases hn)];exact h
   have ai:∀{b:Addr},av b=none->G b=none:=fun h=>au.free h;have k:∀{b:Addr},an b=none->G b=none:=fun h=>ai (n.free h);have bt:ListX K (rm (fun c=>c=l) J7) (B 5) bd ds:=by
    refine ListX.same hL fun b o z=>?_;obtain⟨z1,z2⟩:=mo z;rw[iz (fun y=>z1 ⟨_,by rw[y];exact e9 _ _ kl⟩)];exact ((af.trans n).trans ak) _ _ z2
   have bg:PrcAt K (rm (fun c=>c=l) J7) (B 5) tt ⟨hd.1,N,ys.take hd.2.1,[],[],[],[],ds⟩:=by
    refine⟨pa,t1,t2,f1,q1,f2,q2,bd,s x7 (k ((((((w1.trans w2).trans w3).trans w4).trans w5).trans w6).free r)),s (ak _ _ a4) (ai (ar.free a3)),s (aM _ _ x3) (k ((w1.trans w2).free ag)),s (w7 _ _ x6) (k (((((w1.trans w2).trans w3).trans w4).trans w5).free M)),⟨[],s (ba _ _ x1) (k aU),.nil⟩,⟨[],s (aG _ _ x2) (k (w1.free hq1)),.nil⟩,⟨[],s (aV _ _ x4) (k (((w1.trans w2).trans w3).free ab)),.nil⟩,⟨[],s (aB _ _ x5) (k ((((w1.trans w2).trans w3).trans w4).free O)),.nil⟩,bt,qh (S _ a0),?_,fun y R=>qh (S _ (W _ (BV R))),⟨fun _ h=>(by cases h),fun _ h=>(by cases h)⟩,⟨fun _ h=>(by cases h),fun _ h=>(by cases h)⟩,⟨AH _,AH _⟩,⟨AH _,AH _⟩⟩;rcases aj with z|z
    . show Ok N;rw[z];exact js _ (by simp)
    . exact qh (S _ z)
   have tl:=AB pr;refine⟨l,_,_,rfl,rfl,eJ _ _ kl,j6 (by rw[Ad];lia),ts++[tt],pcs++[⟨hd.1,N,ys.take hd.2.1,[],[],[],[],ds⟩],_,_,_,_,_,_,_,_,_,rfl,fun b o z=>?_,by rw[ft,Au];rfl,?_,by rw[Aj,aR];rfl,?_,fun p hp=>?_⟩
   . rw[fq (g6 z aO)];exact eJ _ _ (eG _ _ z)
   . rw[tq (X:=fun b=>b=l) rfl];exact Paired.snocP (Paired.mapP pr fun _ _ z=>z.same (jp eJ)) bg
   . rw[Au,ac,JA,aq];show _++[qo _]=_++[hd]
     congr 2
     show (hd.1,(ys.take hd.2.1).length,decide (N ≠ ""))=hd;rw[aF,AQ,Df (by lia)]
   . rcases Ap.mp hp with z|z
     . exact aw p z
     . rw[Ao.mp z];refine⟨by show (ys.take hd.2.1).length<=2;rw[AQ];lia,bC.sublist (EG _ _),fun y R=>W _ (BV R),a0,aj,⟨rfl,rfl,rfl,rfl⟩,⟨fun bs=>Ax (hg.len bs) (by lia),fun bs d bp=>(hg.ok bs d bp).mono W⟩⟩
 rintro σ G ⟨ts,pcs,z6,z8,z9,al,ah,ae,n,J,D,rfl,eG,kl,pr,aR,ac,aw⟩;refine bI _ _ ⟨_,rfl,?_⟩;rw[<- Z,BP] at ac;refine q l ts pcs G (e2.trans eG) kl (Paired.mapP pr fun _ _ z=>z.same ko) ⟨by rw[ac];exact aw,?_,by lia,by lia⟩;have e:pcs.map (·.name)=xs.take pcs.length:=by
  apply IY;intro j;have h1:(pcs.map (·.name))[j]? = ((pcs.map qo).map (·.1))[j]?:=by rw[Bd];rfl
  rw[h1,ac,Am,List.getElem?_take];by_cases z:j<pcs.length
  . rw[if_pos z];obtain⟨h,hh⟩:∃h,hs[j]? = some h:=⟨_,Ag (by lia)⟩
    rw[hh,(hok j h hh).1];rfl
  . rw[if_neg z,Bu (by lia)];rfl
 rw[e];exact aY.sublist (EG _ _)
end K56
namespace L2
open PySem PySem.Spec PyProof.Rows PySem.SeqAt
def adm:R2:=fun x y H Q=>∃a b xs,x=.ref a/\y=.ref b/\H a=some (.lst xs)/\H b=some (.lst [])/\Q (.bl (decide (xs≠[]))) H
theorem a9w(r:X.A.units+1<cLine):OpR X (compareOp .NotEq) adm:=by
 intro i s σ H x y v u Q I m p h;obtain⟨a,b,xs,rfl,rfl,ha,hb,q⟩:=h;cases m;cases p;obtain⟨_,us,n1,t,l1,o⟩:=I.lstM ha;obtain⟨_,vs,n2,C,l2,n⟩:=I.lstM hb;have f:s.heap.IsList a us.toArray:=⟨_,o,rfl,n1,rfl⟩
 have l:s.heap.IsList b vs.toArray:=⟨_,n,rfl,n2,rfl⟩
 have k:vs.length=0:=l2.symm;by_cases c:xs=[]
 . subst c;have d:us.length=0:=l1.symm;refine RcNeAt.lists (e:=fun _=>true) f l (by rw[Aq,Aq,d,k]) (by lia) (fun j g _=>by rw[Aq,d] at g;exact absurd g (Fi _)) X.prog X.w _ _ ?_;rw[Aq,d];exact⟨.bl false,H,I,rfl,q⟩
 . refine RcNeAt.lists_lengths f l (by
    have:xs.length≠0:=fun z=>c (B0 z);rw[Aq,Aq,<- l1,k];simpa using c) (by lia) X.prog X.w _ _ ?_
   refine⟨.bl true,H,I,rfl,?_⟩;rw[decide_eq_true c] at q;exact q
theorem afk{K:Ac}(h:X.K=K):SlR X (a0y K):=by subst h;exact og
theorem af3{K:Ac}(h:X.K=K):OpR X (binaryOp .Add) (a7o K):=by subst h;exact a2v
end L2
namespace K56
open PySem PySem.Spec L2 Mir
abbrev aax:Stmt:=top 43
def wf(y:Str):Bool:=(!decide (V.str y=V.str "")) && (!decide (V.str y=V.str "nil"))
theorem a8k:wf y=true↔y ≠ "" /\ y ≠ "nil" := by
 unfold wf;rw[BO,Jd,Jd,decide_eq_false_iff_not,decide_eq_false_iff_not];exact⟨fun⟨a,b⟩=>⟨fun z=>a (by rw[z]),fun z=>b (by rw[z])⟩,fun⟨a,b⟩=>⟨fun z=>a (V.str.inj z),fun z=>b (V.str.inj z)⟩⟩
def qd(p:Prc):List Str:=p.ps++[p.res]++(allL (B 5) p.body).flatMap wrd
theorem ux(d:Dd):wrd (.plain (.row (rowD d)))=o0 d:=by
 cases d with
 | set x e=>show j9 "set" [x,e]=_;unfold j9;rfl
 | read x y f=>show j9 "read" [x,y,f]=_;unfold j9;rfl
 | write y f e=>show j9 "write" [y,f,e]=_;unfold j9;rfl
 | new x e f=>show j9 "new" [x,e,f]=_;unfold j9;rfl
 | free y=>show j9 "free" [y]=_;unfold j9;rfl
abbrev Wt:=Addr×Deed×Nat
def wtD(w:Wt):List Deed:=allD (allL (B w.2.2)) w.2.1
def wtN(ws:List Wt):Nat:=(ws.map fun w=>(wtD w).length).sum
structure WtOk(K:Ac)(X:Hp)(e:Ev)(w:Wt):Prop where
 x:DeedX K X (ListX K X (B w.2.2)) w.1 w.2.1
 g:∀d∈wtD w,DG e d
theorem wh(h:ListX K X (B m) l ds)(a:∀d∈allL (B m) ds,DG e d):∃ws:List Wt,X l=some (.lst (ws.map fun w=>V.ref w.1))/\(∀w∈ws,WtOk K X e w)/\ws.flatMap wtD=allL (B m) ds:=by
 cases m with
 | zero=>exact h.elim
 | succ m =>
  obtain⟨ts,c,b,j⟩:=h;clear j;refine⟨(ts.zip ds).map fun x=>(x.1,x.2,m),?_,?_,?_⟩
  . rw[c,Bd]
    congr 2
    clear c a;induction b with
    | nil=>rfl
    | cons _ _ ih=>rw[Ar,CW,Ar,ih];rfl
  . intro w k;obtain⟨⟨t,d⟩,hz,rfl⟩:=Az.mp k;obtain⟨i,hi⟩:=Cn hz;rw[El] at hi;have hd:=AE hi.2;exact⟨Paired.at2 b hi.1 hi.2,fun f g=>a f (Bt.mpr ⟨d,hd,g⟩)⟩
  . show _=ds.flatMap (allD (allL (B m)));clear c a;induction b with
    | nil=>rfl
    | cons _ _ ih=>rw[CW,Ar,Cs,Cs,ih];rfl
theorem qu(ws:List Wt):wtN ws=(ws.flatMap wtD).length:=by
 unfold wtN;induction ws with
 | nil=>rfl
 | cons w ws ih=>rw[Ar,Cm,Cs,Aj,ih]
theorem zg(ws:List Wt):ws.length<=wtN ws:=by
 unfold wtN;induction ws with
 | nil=>exact Ak _
 | cons w ws ih =>
  rw[Ar,Cm,AC];have:1<=(wtD w).length:=by show 1<=(_::_).length;rw[AC];lia
  lia
inductive spTold(K:Ac)(vs:List V)(H:Hp)(Q:VK)(E:XK):Prop
 | mk (t:Addr)(pc:Prc)(xs:List Str)(hs:List (Str×Nat×Bool))(h0:vs=[.ref t])(h1:PrcAt K H (B 5) t pc)(h2:PcOk xs hs pc)(h3:xs.length=6)(h4:∀h∈hs,h.2.1<=8)(q:∀zl zs H',Same H H'->H zl=none->H' zl=some (.lst ((zs:List Str).map V.str))->zs.Nodup->(∀y,y∈zs↔y ≠ "" /\ y ≠ "nil" /\ y∈qd pc)->Q (.ref zl) H'):spTold K vs H Q E
theorem abu(C:Con K mg w)(F:Fun K "_law_told_names" "_law_told_names" aax f fd)(GS:FnOk P w K mg base CX0 1 gS dS ["_law_deed"] (spSaidBy K))(cS:Cal K mg "_law_said_by" gS dS ["_law_deed"]):FnOk P w K mg base CX0 2 f fd ["_law_procedure"] (spTold K):=by
 refine F.okA ["_law_procedure","_law_found","_law_name","_law_waiting","_law_deed","_law_some"] fun bj A outer s0 H vs Q E hr h nd=>?_;obtain⟨t,pc,xs,hs,rfl,ba,hok,a4,aZ,q⟩:=h;have aD:=kx hr;refine⟨_,fw (gp 1 nd tm)
  (fw (jw AO rfl (a3s (K:=K) rfl (gh (af3 (K:=K) rfl) (gz K (qv 0) fu) (je (gj (gz K (qv 0) fu) ad)))) (jc 2 nd) (fz (jy aD (qv 1) (qv 2) ny)))
  (fw (gp 3 nd (i6 ji rfl C.list Bh (gj (gz K (qv 0) fu) ad)))
  (fw (qi AO (gi (a9w aD) (qv 3) (i8 ad) (gn _)) (fw (gp 4 nd (a15 AM EW EX a2s (qv 3)))
  (fw (ie (QW.qt (yu (gi ib (gz K (qv 4) fu) i7 (gn _)) (yk (gi ib (gz K (qv 4) fu) i7 (gn _))))) (fw (gp 5 nd (i6 ji rfl C.list Bh (gj (j8 (afk (K:=K) rfl) (gz K (qv 4) fu) (j7 fu) jn) ad)))
  (fw (ik (ke (K:=K) rfl AM CG CH ot (qv 3) (gj (gz K (qv 4) (jv jl fu)) ad)))
  (fz (ie (gi ib (gz K (qv 4) fu) i7 (gn _)) (fz (ik (ke (K:=K) rfl AM CG CH ot (qv 3) (gj (gz K (qv 4) fu) ad)))) iq)))) (fz (ie (gi ib (gz K (qv 4) fu) i7 (gn _)) (fz (gp 5 nd (gh ky (i8 (gj (gz K (qv 4) fu) ad)) (i6 ji rfl C.list Bh (gj (gz K (qv 4) fu) ad))))) (fz (gp 5 nd (i6 ji rfl C.list Bh (gw (gk GS hr cS (fy (qv 4) ad)) ad)))))))
  (fz (jw AO rfl (a13 (K:=K) rfl (qv 5)) (jc 2 nd) (fz (jy aD (qv 1) (qv 2) ny)))))))
  (fz (gu (ii (a5o (K:=K) rfl) rfl C.sorted Ew (jf (adb (qp (yh (qv 1)) (fun _ _ _ _=>(zr (QW.qt (ph (gi ri (qv 0) i7 (gn _)) (ng (gi ri (qv 0) i7 (gn _))))))) (fun _ _ _ _=>(qv 0)))) ad))))))),?_⟩
 obtain⟨pt,t1,t2,f1,p1,f2,p2,bd,px⟩:=id ba;have ao:H t=some (.tup [.str pc.name,.ref pt,.str pc.res,.ref t1,.ref t2,.ref bd]):=px.tup;have a7:H pt=some (.tup (pc.ps.map V.str)):=px.pt;have a6:=hok.pl;have wx:∀{d:Deed},DG ⟨xs,hs⟩ d->∀y∈wrd d,y∈xs++[("nil" : Str),""]:=fun {d} hd y R=>by
  have up:∀{y:Str},y∈xs++[("nil" : Str)]->y∈xs++[("nil" : Str),""]:=fun h=>by
   rcases Ap.mp h with z|z
   . exact AD _ z
   . rw[Ao.mp z];simp
  have c:∀{r:List Str},lp ⟨xs,hs⟩ r->y∈r.drop 1->y∈xs++[("nil" : Str),""]:=fun h R=>by
   obtain⟨f,x,z,rfl,_,W,h2⟩:=h;simp only[List.drop_succ_cons,CO,Ah,Ay,or_false] at R;rcases R with rfl|rfl
   . exact AD _ W
   . exact up h2
  cases d with
  | plain q =>
   cases q with
   | row r =>
    obtain⟨d,rfl,N⟩:=hd;rw[ux] at R;cases d with
    | set x e=>simp only[o0,Ah,Ay,or_false] at R;rcases R with rfl|rfl;exact AD _ N.1;exact up N.2
    | read x z f=>simp only[o0,Ah,Ay,or_false] at R;rcases R with rfl|rfl;exact AD _ N.1;exact AD _ N.2.1
    | write z f e=>simp only[o0,Ah,Ay,or_false] at R;rcases R with rfl|rfl;exact AD _ N.1;exact up N.2.2
    | new x e f=>simp only[o0,Ah,Ay,or_false] at R;rcases R with rfl|rfl|rfl;exact AD _ N.1;exact up N.2.1;exact up N.2.2
    | free z=>simp only[o0,Ah,Ay,or_false] at R;rw[R];exact AD _ N
   | call x cc vs =>
    obtain⟨W,h2,_⟩:=hd;rcases Ah.mp R with rfl|z
    . rcases W with z|z
      . rw[z];simp
      . exact AD _ z
    . exact up (h2 y z)
  | cond r a b=>exact c hd R
  | loop r FF PP a =>
   obtain⟨W,rfl,rfl⟩:=hd;exact c W (by rcases Ap.mp R with z|z;exact z;cases z)
 have ax:∀{S:List Str},S.Nodup->(∀y∈S,y∈xs++[("nil" : Str),""])->(bK S).length<sizeLine:=fun W h2=>by
  have:=AW W h2;rw[Aj] at this;exact j6 (by unfold bK;rw[Ad];simp at this;lia)
 refine g8 (a:=tAsg _ _) fun D1 aQ _ _=>?_;intro J av;obtain⟨H1,z0,s1,k1⟩:=gr av (.dK []);change H1 J=some (.dK (bK [])) at k1;rw[z0];refine aQ [some (.ref t),some (.ref J),none,none,none,none] _ ?_;clear aQ;refine g8 (a:=tFor _ _ _) fun D2 aJ _ _=>?_;refine⟨_,rfl,t,_,1,_,rfl,rfl,SqT.of (s1 _ _ ao),rfl,_,rfl,t,_,2,_,rfl,rfl,SqT.of (s1 _ _ ao),rfl,(show 1<=sizeLine by decide),fun p hp=>?_⟩;obtain⟨H2,z1,s2,k2⟩:=gr hp (.tup [.str pc.res]);rw[z1];refine⟨pt,p,_,_,rfl,rfl,SqT.of ((s1.trans s2) _ _ a7),SqT.of k2,(by rw[Ad];exact Ax (Ie a6 1) (by decide)),fun u H3 s3 aP=>?_⟩;have ag:SqT K H3 u ((pc.ps++[pc.res]).map V.str):=by rw[Au];exact aP
 have e3:=(s1.trans s2).trans s3;have k3:=s3 _ _ (s2 _ _ k1);have aN:∀y∈pc.ps++[pc.res],y∈xs++[("nil" : Str),""]:=fun y R=>by
  rcases Ap.mp R with z|z
  . exact AD _ (hok.px y z)
  . rw[Ao.mp z];rcases hok.res with w|w
    . rw[w];simp
    . exact AD _ w
 refine⟨u,rfl,⟨_,ag⟩,?_⟩;refine ad3 (xs:=(pc.ps++[pc.res]).map V.str) (fun i σ G=>∃(S:List Str) (O:Option V),σ=[some (.ref t),some (.ref J),O,none,none,none]/\SqT K G u ((pc.ps++[pc.res]).map V.str)/\Same H G/\G J=some (.dK (bK S))/\S.Nodup/\∀y,y∈S↔y∈(pc.ps++[pc.res]).take i) ⟨[],none,rfl,ag,e3,k3,E8,fun y=>by rw[DQ]⟩ ?_ ?_ ?_
 . rintro i σ G hi ⟨S,O,rfl,hu,_⟩;exact hu
 . rintro i x σ G hx ⟨S,O,rfl,hu,eG,kf,nS,mS⟩;rw[Am] at hx;obtain⟨y,R,rfl⟩:=Bb.mp hx;refine⟨_,rfl,_,rfl,J,_,rfl,DPut.k (k:=Sum.inr y) kf (ax nS fun z hz=>aN z (BV ((mS z).mp hz))),?_⟩;rw[a8i];refine⟨addL S y,_,rfl,ou hu fun o W _ h3 _=>by rw[fq (fun z=>by rw[z,kf] at W;cases W;exact h3 _ rfl)];exact W,fun b o z=>by rw[fq (g6 z av)];exact eG _ _ z,ft,yy nS,fun z=>?_⟩;rw[mem_addL,mS,wt R,Ap,Ao]
 rintro σ G ⟨S0,O,rfl,_,eG,kf,nS,mS⟩;refine aJ _ _ ?_;clear aJ aP ag s2 s3 k2 hp k1 s1 e3 k3;rw[Ad,BP] at mS;refine g8 (a:=tAsg _ _) fun D3 aT _ _=>?_;obtain⟨an,aU,ay,ak⟩:=wh px.body (hok.bd.ok (B 5));refine⟨_,rfl,t,_,5,_,rfl,rfl,SqT.of (eG _ _ ao),rfl,bd,_,rfl,.inl (SqL.of (eG _ _ aU)),fun l ap=>?_⟩;obtain⟨H4,z2,s4,k4⟩:=gr ap (.lst (an.map fun w=>V.ref w.1));dsimp only[gq];rw[z2];refine aT [some (.ref t),some (.ref J),O,some (.ref l),none,none] _ ?_;clear aT;have au:H l=none:=eG.free ap;have ai:J≠l:=fun z=>by rw[<- z,kf] at ap;cases ap
 refine g8 (a:=uz _ _) fun D4 aE _ _=>?_;refine⟨fun n σ G=>∃(S:List Str) (ws:List Wt) (O z4 z5:Option V),n=wtN ws/\σ=[some (.ref t),some (.ref J),O,some (.ref l),z4,z5]/\Same H G/\G J=some (.dK (bK S))/\S.Nodup/\G l=some (.lst (ws.map fun w=>V.ref w.1))/\(∀w∈ws,WtOk K H ⟨xs,hs⟩ w)/\wtN ws<=28/\(∀y∈S,y∈xs++[("nil" : Str),""])/\∀y,(y∈S\/y∈(ws.flatMap wtD).flatMap wrd)↔y∈qd pc,⟨_,S0,an,O,none,none,rfl,rfl,eG.trans s4,s4 _ _ kf,nS,k4,ay,by rw[qu,ak];exact hok.bd.len _,fun y R=>aN y ((mS y).mp R),fun y=>?_⟩,?_⟩
 . rw[mS,ak];unfold qd;rw[Ap (s:=pc.ps++[pc.res])]
 clear ay ak k4 s4 kf nS mS aU eG ap;rintro n σ G2 ⟨S,ws,O,z4,z5,rfl,rfl,eG,kf,nS,kw,aW,hn,sS,mem⟩;refine⟨_,rfl,(show 0<=sizeLine by decide),fun en aL=>?_⟩;obtain⟨G5,z3,s5,k5⟩:=gr aL (.lst []);rw[z3];refine⟨l,en,_,rfl,rfl,s5 _ _ kw,k5,_,rfl,iteB (fun c1=>?_) (fun c1=>?_)⟩
 rotate_left
 . have e0:ws=[]:=by
    have:=of_decide_eq_false c1;cases ws with
    | nil=>rfl
    | cons w ws=>exact absurd (by simp) this
   subst e0;refine aE _ _ ?_;clear aE;have aY:=s5 _ _ kf;have e5:=eG.trans s5;have bc:S.length<=8:=by
    have:=AW nS sS;rw[Aj,a4] at this;exact this
   refine⟨_,rfl,J,_,rfl,aY,fun od nf=>?_⟩;have hJ:JSeq (Itk J od (bK S)) (fun H=>H J=some (.frz od (.dK (bK S)))) (S.map V.str):=by rw[<- acq];exact acr
   refine yi S wf hJ ft (by lia) (fun n hn G3 e3 Q' q'=>?_) (fun n G3 Q' q'=>⟨_,rfl,q'⟩) fun D G3 hD e3 a8=>?_
   . have a1:=q' G3 (Same.refl _);unfold wf at a1;refine⟨_,rfl,rfl,_,rfl,iteB (fun c=>⟨_,rfl,rfl,_,rfl,?_⟩) (fun c=>?_)⟩
     . rw[c,JI] at a1;exact a1
     . rw[c,Fo] at a1;exact a1
   have a2:G3 J=some (.frz od (.dK (bK S))):=e3 _ _ ft;have nD:D≠J:=fun z=>by rw[z,ft] at hD;cases hD
   have aR:∀y,y∈S.filter wf↔y ≠ "" /\ y ≠ "nil" /\ y∈qd pc:=fun y=>by
    rw[CY,a8k,<- mem];exact⟨fun⟨a,b,c⟩=>⟨b,c,.inl a⟩,fun⟨b,c,a⟩=>⟨a.elim id (fun z=>by cases z),b,c⟩⟩
   have bi:(S.filter wf).length<=8:=Ax (BM _ _) bc;have e4:Same H (upd G3 J (.dK (bK S))):=fun b u z=>by
    have nb:b≠J:=g6 z av;rw[fq nb];exact e3 _ _ (by rw[fq nb];exact e5 _ _ z)
   exact⟨J,od,.dK (bK S),a2,nf,.mk D _ rfl (SqL.of (by rw[fq nD];exact a8)) (by lia) fun zp zs hz pm M=>q zp zs _ (e4.trans (gc hz _)) (e4.free hz) ft (pm.nodup_iff.mpr (nS.filter _)) fun y=>(pm.mem_iff).trans (aR y)⟩
 have aG:ws≠[]:=fun z=>by have:=of_decide_eq_true c1;rw[z] at this;exact this rfl
 obtain⟨j,w,rfl⟩:∃(j:List Wt) (w:Wt),ws=j++[w]:=⟨ws.dropLast,ws.getLast aG,(DV aG).symm⟩
 clear aE c1 aG;have aH:G5 l=some (.lst (j.map (fun w=>V.ref w.1)++[V.ref w.1])):=by rw[s5 _ _ kw,Au];rfl
 have aI:(j.map (fun w=>V.ref w.1)++[V.ref w.1])[(j.map (fun w=>V.ref w.1)++[V.ref w.1]).length - 1]? = some (V.ref w.1):=by
  rw[Aj,Ba,FD];exact DW
 refine⟨fun σ' G'=>∃(S:List Str) (ws:List Wt) (O z4 z5:Option V),wtN ws<wtN (j++[w])/\σ'=[some (.ref t),some (.ref J),O,some (.ref l),z4,z5]/\Same H G'/\G' J=some (.dK (bK S))/\S.Nodup/\G' l=some (.lst (ws.map fun w=>V.ref w.1))/\(∀w∈ws,WtOk K H ⟨xs,hs⟩ w)/\wtN ws<=28/\(∀y∈S,y∈xs++[("nil" : Str),""])/\∀y,(y∈S\/y∈(ws.flatMap wtD).flatMap wrd)↔y∈qd pc,fun σ' G' hN=>?_,?_⟩
 . obtain⟨S,ws,O,z4,z5,aX,r⟩:=hN;exact⟨wtN ws,aX,S,ws,O,z4,z5,rfl,r⟩
 refine g8 (a:=tAsg _ _) fun E1 aV _ _=>?_;refine⟨_,rfl,.inl ⟨rfl,_,SqL.of aH⟩,l,_,_,rfl,rfl,aH,aI,?_⟩;rw[Fj];have I:Same H (upd G5 l (.lst (j.map fun w=>V.ref w.1))):=fun b o z=>by rw[fq (g6 z au)];exact s5 _ _ (eG _ _ z)
 have am:(upd G5 l (.lst (j.map fun w=>V.ref w.1))) J=some (.dK (bK S)):=by rw[fq ai];exact s5 _ _ kf
 have ae:(upd G5 l (.lst (j.map fun w=>V.ref w.1))) l=some (.lst (j.map fun w=>V.ref w.1)):=ft;dsimp only[gq];generalize upd G5 l (.lst (j.map fun w=>V.ref w.1))=G6 at I am ae |-;obtain⟨L,d,m⟩:=w;refine aV [some (.ref t),some (.ref J),O,some (.ref l),some (.ref L),z5] _ ?_;clear aV aI aH kf kw eG s5 k5 aL;obtain⟨ac,aK⟩:=aW (L,d,m) (AF _ (Ao.mpr rfl));have ac:DeedX K H (ListX K H (B m)) L d:=ac;have ah:DG ⟨xs,hs⟩ d:=aK d Af;have N:∀es∈innL d,∀e∈allL (B m) es,DG ⟨xs,hs⟩ e:=fun es a3 e he=>aK e (Al _ (Bt.mpr ⟨es,a3,he⟩));have wN:wtN (j++[(L,d,m)])=wtN j+(((innL d).flatMap (allL (B m))).length+1):=by
  unfold wtN;rw[Au,J0];rfl
 have wl:=zg j;refine g8 (a:=tIfS _ _ _) fun E2 aS _ _=>?_;have aq:∀(X:Hp) (M:Addr) (us:List Str) (pu:List Wt),Same H X->X J=some (.dK (bK S))->X M=some (.lst (us.map V.str))->X l=some (.lst ((j++pu).map fun w=>V.ref w.1))->(∀w∈pu,WtOk K H ⟨xs,hs⟩ w)->us=wrd d->(pu.flatMap wtD).Perm ((innL d).flatMap (allL (B m)))->E2.nx [some (.ref t),some (.ref J),O,some (.ref l),some (.ref L),some (.ref M)] X:=fun X M us pu e7 f7 ks be okp aO pe=>by
  refine aS _ _ ?_;have a5:M≠J:=fun z=>by rw[z,f7] at ks;cases ks
  refine⟨_,rfl,M,rfl,⟨_,SqL.of ks⟩,?_⟩;refine o9 (xs:=us.map V.str) (fun i σ G=>∃(S':List Str) (O:Option V),σ=[some (.ref t),some (.ref J),O,some (.ref l),some (.ref L),some (.ref M)]/\Same H G/\G J=some (.dK (bK S'))/\S'.Nodup/\G M=some (.lst (us.map V.str))/\G l=some (.lst ((j++pu).map fun w=>V.ref w.1))/\(∀y∈S',y∈xs++[("nil" : Str),""])/\∀y,y∈S'↔y∈S\/y∈us.take i) ⟨S,O,rfl,e7,f7,nS,ks,be,sS,fun y=>by rw[DQ];exact⟨.inl,fun h=>h.elim id fun z=>by cases z⟩⟩ ?_ ?_ ?_
  . rintro i σ G hi ⟨S',O,rfl,_,_,_,ks,_⟩;exact SqL.of ks
  . rintro i x σ G hx ⟨S',O,rfl,e8,f8,n8,ks,U,s8,m8⟩;rw[Am] at hx;obtain⟨y,R,rfl⟩:=Bb.mp hx;have bb:y∈wrd d:=by rw[<- aO];exact AE R
    refine⟨_,rfl,_,rfl,J,_,rfl,DPut.k (k:=Sum.inr y) f8 (ax n8 s8),?_⟩;rw[a8i];refine⟨addL S' y,_,rfl,fun b o z=>by rw[fq (g6 z av)];exact e8 _ _ z,ft,yy n8,by rw[fq a5];exact ks,by rw[fq (AL ai)];exact U,fun z hz=>?_,fun z=>?_⟩
    . rcases mem_addL.mp hz with w|w
      . exact s8 z w
      . rw[w];exact wx ah y bb
    . rw[mem_addL,m8,wt R,Ap,Ao,or_assoc]
  . rintro σ G ⟨S',O,rfl,e8,f8,n8,_,U,s8,m8⟩;rw[Ad,BP] at m8;have pl:=pe.length_eq;have bh:wtN (j++pu)=wtN j+((innL d).flatMap (allL (B m))).length:=by
     rw[<- pl,<- qu];unfold wtN;rw[Au,J0]
    refine⟨S',j++pu,O,_,_,by lia,rfl,e8,f8,n8,U,fun w hw=>(Ap.mp hw).elim (fun z=>aW w (AD _ z)) (fun z=>okp w z),by lia,s8,fun y=>?_⟩;rw[<- mem,m8,aO,Cd,Cd,Cd,Cd,Ap,Ap];have e1:y∈(pu.flatMap wtD).flatMap wrd↔y∈((innL d).flatMap (allL (B m))).flatMap wrd:=by
     rw[Bt,Bt];exact⟨fun⟨x,W,h2⟩=>⟨x,pe.mem_iff.mp W,h2⟩,fun⟨x,W,h2⟩=>⟨x,pe.mem_iff.mpr W,h2⟩⟩
    have e2:y∈([(L,d,m)].flatMap wtD).flatMap wrd↔y∈wrd d\/y∈((innL d).flatMap (allL (B m))).flatMap wrd:=by
     rw[BH];show y∈(d::(innL d).flatMap (allL (B m))).flatMap wrd↔_;rw[Cs,Ap]
    rw[e1,e2];constructor
    . rintro ((h|h)|h|h)
      . exact .inl h
      . exact .inr (.inr (.inl h))
      . exact .inr (.inl h)
      . exact .inr (.inr (.inr h))
    . rintro (h|h|h|h)
      . exact .inl (.inl h)
      . exact .inr (.inl h)
      . exact .inl (.inr h)
      . exact .inr (.inr h)
 clear aS;have aA:wtN j+(((innL d).flatMap (allL (B m))).length+1)<=28:=by rw[<- wN];exact hn
 have aM:("while" : Str) ≠ "if" := by decide +kernel
 cases d with
 | cond r ca cb =>
  obtain⟨f0,Z,Y,rfl,_,_,_⟩:=ah;cases ac with
  | cond c i o _ _ _ h hc okr hi ho =>
   obtain⟨wa,ka,oa,fa⟩:=wh hi (N ca Af);obtain⟨wb,kb,ob,fb⟩:=wh ho (N cb (Al _ Af));have la:=zg wa;have lb:=zg wb;rw[qu,fa] at la;rw[qu,fb] at lb;have il:((innL (.cond [f0,Z,Y] ca cb)).flatMap (allL (B m)))=allL (B m) ca++allL (B m) cb:=by
    show[ca,cb].flatMap _=_;rw[Cs,BH]
   rw[il,Aj] at aA;refine⟨_,rfl,L,_,0,_,rfl,rfl,SqT.of (I _ _ h),at0,rfl,_,rfl,iteB (fun _=>?_) (fun c=>absurd c (by simp))⟩;refine g8 (a:=tAsg _ _) fun E3 aj _ _=>?_;refine⟨_,rfl,L,_,1,_,rfl,rfl,SqT.of (I _ _ h),rfl,_,rfl,c,_,rfl,SqT.of (I _ _ hc),fun p X e7 hp=>?_⟩;have aF:SqT K X p (([Z,Y]:List Str).map V.str):=hp;refine⟨p,_,rfl,.inr aF,fun M T=>?_⟩;obtain⟨G8,z6,s8,k8⟩:=gr T (.lst (([Z,Y]:List Str).map V.str));dsimp only[gq];rw[z6];have e8:=e7.trans s8;refine aj [some (.ref t),some (.ref J),O,some (.ref l),some (.ref L),some (.ref M)] _ ?_;clear aj;have ab:=I.trans e8;have U:=e8 _ _ ae;have ar:M≠l:=fun z=>by rw[z,e7 _ _ ae] at T;cases T
   refine g8 (a:=mn _) fun E4 aC _ _=>?_;refine⟨_,rfl,.inl ⟨rfl,_,SqL.of U⟩,_,rfl,_,rfl,L,_,_,_,rfl,rfl,SqT.of (ab _ _ h),rfl,l,o,_,_,rfl,rfl,U,ab _ _ kb,ia (by rw[Ad,Ad];lia),?_⟩;have e9:Same H (upd G8 l (.lst (j.map (fun w=>V.ref w.1)++wb.map fun w=>V.ref w.1))):=fun b o z=>by rw[fq (g6 z au)];exact ab _ _ z
   have f9:(upd G8 l (.lst (j.map (fun w=>V.ref w.1)++wb.map fun w=>V.ref w.1))) J=some (.dK (bK S)):=by rw[fq ai];exact e8 _ _ am
   have k9:(upd G8 l (.lst (j.map (fun w=>V.ref w.1)++wb.map fun w=>V.ref w.1))) M=some (.lst (([Z,Y]:List Str).map V.str)):=by rw[fq ar];exact k8
   have af:(upd G8 l (.lst (j.map (fun w=>V.ref w.1)++wb.map fun w=>V.ref w.1))) l=some (.lst (j.map (fun w=>V.ref w.1)++wb.map fun w=>V.ref w.1)):=ft;generalize upd G8 l (.lst (j.map (fun w=>V.ref w.1)++wb.map fun w=>V.ref w.1))=G9 at e9 f9 k9 af |-;refine aC [some (.ref t),some (.ref J),O,some (.ref l),some (.ref L),some (.ref M)] _ ?_;refine⟨_,rfl,L,_,0,_,rfl,rfl,SqT.of (e9 _ _ h),at0,rfl,_,rfl,iteB (fun _=>?_) (fun c=>absurd c (by simp))⟩;refine⟨_,rfl,.inl ⟨rfl,_,SqL.of af⟩,_,rfl,L,_,2,_,rfl,rfl,SqT.of (e9 _ _ h),rfl,l,i,_,_,rfl,rfl,af,e9 _ _ ka,ia (by rw[Aj,Ad,Ad,Ad];lia),?_⟩;refine aq _ M [Z,Y] (wb++wa) (fun b o z=>by rw[fq (g6 z au)];exact e9 _ _ z) (by rw[fq ai];exact f9) (by rw[fq ar];exact k9) (by rw[ft,Au,Au,Cb]) (fun w hw=>(Ap.mp hw).elim (ob w) (oa w)) rfl ?_;rw[il,Cd,fa,fb];exact HV
 | loop r FF PP ca =>
  obtain⟨⟨f0,Z,Y,rfl,_,_,_⟩,rfl,rfl⟩:=ah;cases ac with
  | loop c tt i fa' pa' _ _ _ _ h hc okr htd hF hP okF okP lF lP hi =>
   obtain⟨wa,ka,oa,fa⟩:=wh hi (N ca Af);have la:=zg wa;rw[qu,fa] at la;have il:((innL (.loop [f0,Z,Y] [] [] ca)).flatMap (allL (B m)))=allL (B m) ca:=by
    show[ca].flatMap _=_;rw[BH]
   rw[il] at aA;refine⟨_,rfl,L,_,0,_,rfl,rfl,SqT.of (I _ _ h),at0,rfl,_,rfl,iteB (fun c=>absurd (V.str.inj (of_decide_eq_true c)) aM) (fun _=>?_)⟩;refine⟨_,rfl,L,_,0,_,rfl,rfl,SqT.of (I _ _ h),at0,rfl,_,rfl,iteB (fun _=>?_) (fun c=>absurd c (by simp))⟩;refine g8 (a:=tAsg _ _) fun E3 aj _ _=>?_;refine⟨_,rfl,L,_,1,_,rfl,rfl,SqT.of (I _ _ h),rfl,_,rfl,c,_,rfl,SqT.of (I _ _ hc),fun p X e7 hp=>?_⟩;have aF:SqT K X p (([Z,Y]:List Str).map V.str):=hp;refine⟨p,_,rfl,.inr aF,fun M T=>?_⟩;obtain⟨G8,z7,s8,k8⟩:=gr T (.lst (([Z,Y]:List Str).map V.str));dsimp only[gq];rw[z7];have e8:=e7.trans s8;refine aj [some (.ref t),some (.ref J),O,some (.ref l),some (.ref L),some (.ref M)] _ ?_;clear aj;have ab:=I.trans e8;have U:=e8 _ _ ae;have ar:M≠l:=fun z=>by rw[z,e7 _ _ ae] at T;cases T
   refine g8 (a:=mn _) fun E4 aC _ _=>?_;refine⟨_,rfl,.inl ⟨rfl,_,SqL.of U⟩,_,rfl,_,rfl,L,_,_,_,rfl,rfl,SqT.of (ab _ _ h),rfl,l,i,_,_,rfl,rfl,U,ab _ _ ka,ia (by rw[Ad,Ad];lia),?_⟩;have e9:Same H (upd G8 l (.lst (j.map (fun w=>V.ref w.1)++wa.map fun w=>V.ref w.1))):=fun b o z=>by rw[fq (g6 z au)];exact ab _ _ z
   have f9:(upd G8 l (.lst (j.map (fun w=>V.ref w.1)++wa.map fun w=>V.ref w.1))) J=some (.dK (bK S)):=by rw[fq ai];exact e8 _ _ am
   have k9:(upd G8 l (.lst (j.map (fun w=>V.ref w.1)++wa.map fun w=>V.ref w.1))) M=some (.lst (([Z,Y]:List Str).map V.str)):=by rw[fq ar];exact k8
   have af:(upd G8 l (.lst (j.map (fun w=>V.ref w.1)++wa.map fun w=>V.ref w.1))) l=some (.lst ((j++wa).map fun w=>V.ref w.1)):=by rw[ft,Au]
   generalize upd G8 l (.lst (j.map (fun w=>V.ref w.1)++wa.map fun w=>V.ref w.1))=G9 at e9 f9 k9 af |-;refine aC [some (.ref t),some (.ref J),O,some (.ref l),some (.ref L),some (.ref M)] _ ?_;refine⟨_,rfl,L,_,0,_,rfl,rfl,SqT.of (e9 _ _ h),at0,rfl,_,rfl,iteB (fun c=>absurd (V.str.inj (of_decide_eq_true c)) aM) (fun _=>?_)⟩;refine aq _ M [Z,Y] wa e9 f9 k9 af oa rfl ?_;rw[il,fa]
 | plain pl =>
  have az:(([]:List Wt).flatMap wtD).Perm ((innL (.plain pl)).flatMap (allL (B m))):=DR _;have aB:G6 l=some (.lst ((j++([]:List Wt)).map fun w=>V.ref w.1)):=by rw[Da];exact ae
  cases pl with
  | call x cc vs =>
   obtain⟨v,al,hv⟩:PlAt H L (.call x cc vs):=by cases ac with|plain _ W _=>exact W
   have nc:("call" : Str) ≠ "if" /\ ("call" : Str) ≠ "while" := by decide +kernel
   refine⟨_,rfl,L,_,0,_,rfl,rfl,SqT.of (I _ _ al),at0,rfl,_,rfl,iteB (fun c=>absurd (V.str.inj (of_decide_eq_true c)) nc.1) (fun _=>?_)⟩;refine⟨_,rfl,L,_,0,_,rfl,rfl,SqT.of (I _ _ al),at0,rfl,_,rfl,iteB (fun c=>absurd (V.str.inj (of_decide_eq_true c)) nc.2) (fun _=>?_)⟩;refine⟨_,rfl,L,_,0,_,rfl,rfl,SqT.of (I _ _ al),at0,rfl,_,rfl,iteB (fun _=>?_) (fun c=>absurd c (by simp))⟩;refine⟨_,rfl,L,_,1,_,rfl,rfl,SqT.of (I _ _ al),rfl,(show 1<=sizeLine by decide),fun u hu=>?_⟩;obtain⟨X,z8,s7,k7⟩:=gr hu (.lst [V.str x]);rw[z8];refine⟨_,rfl,L,_,3,_,rfl,rfl,SqT.of (s7 _ _ (I _ _ al)),rfl,v,_,rfl,.inr (SqT.of (s7 _ _ (I _ _ hv))),fun u2 a9=>?_⟩;obtain⟨G8,z9,s8,k8⟩:=gr a9 (.lst (vs.map V.str));rw[z9];obtain⟨_,_,g,a0,_⟩:=ah;have vl:vs.length<=900:=Ax (aZ _ a0) (by decide);refine⟨u,u2,_,_,rfl,rfl,s8 _ _ k7,k8,ia (by rw[Ad];show 1+_<=1000;lia),fun M T=>?_⟩;have s9:=gc T (.lst ([V.str x]++vs.map V.str));have e9:=(s7.trans s8).trans s9;dsimp only[gq];exact aq _ M (x::vs) [] (I.trans e9) (e9 _ _ am) ft (e9 _ _ aB) (fun w hw=>by cases hw) rfl az
  | row r =>
   obtain⟨d',rfl,bg⟩:=ah;have aw:H L=some (.tup ((rowD d').map V.str)):=by cases ac with|plain _ W _=>exact W
   obtain⟨w0,rest,ew,n1,n2,n3⟩:∃(w0:Str) (rest:List Str),rowD d'=w0::rest/\w0 ≠ "if" /\ w0 ≠ "while" /\ w0 ≠ "call" := by
    cases d'<;>exact⟨_,_,rfl,by decide +kernel,by decide +kernel,by decide +kernel⟩
   have aa:H L=some (.tup (.str w0::rest.map V.str)):=by rw[aw,ew];rfl
   refine⟨_,rfl,L,_,0,_,rfl,rfl,SqT.of (I _ _ aa),at0,rfl,_,rfl,iteB (fun c=>absurd (V.str.inj (of_decide_eq_true c)) n1) (fun _=>?_)⟩;refine⟨_,rfl,L,_,0,_,rfl,rfl,SqT.of (I _ _ aa),at0,rfl,_,rfl,iteB (fun c=>absurd (V.str.inj (of_decide_eq_true c)) n2) (fun _=>?_)⟩;refine⟨_,rfl,L,_,0,_,rfl,rfl,SqT.of (I _ _ aa),at0,rfl,_,rfl,iteB (fun c=>absurd (V.str.inj (of_decide_eq_true c)) n3) (fun _=>?_)⟩;refine⟨_,rfl,.mk L d' rfl (I _ _ aw) fun r1 X e7 bf=>?_⟩;refine⟨r1,_,rfl,.inr bf,fun M T=>?_⟩;have s8:=gc T (.lst ((o0 d').map V.str));have e8:=e7.trans s8;dsimp only[gq];exact aq _ M (o0 d') [] (I.trans e8) (e8 _ _ am) ft (e8 _ _ aB) (fun w hw=>by cases hw) (ux d').symm az
abbrev a3g:Stmt:=top 47
theorem ac8(xs:List Str)(f:Str->Int):(vK xs f).map (fun kv=>kV kv.1)=xs.map V.str:=by unfold vK;rw[Bd];rfl
theorem a8n:∀{hp:List (Int×Addr)},(hp.map (·.1)).Nodup->∀{p:Int×Addr},p∈hp->valV (hK hp) (Sum.inl p.1)=some (.ref p.2)
 | [],_,_,h=>by cases h
 | x::hp,hn,p,h=>by
  rw[Ar,AU] at hn;show valV ((Sum.inl x.1,V.ref x.2)::hK hp) _=_;rcases Ah.mp h with rfl|z
  . exact md rfl
  . rw[m7 (fun e=>hn.1 (by rw[Ed e];exact Br z))];exact a8n hn.2 z
def sK(S:List Int):List (Key×V):=S.map fun i=>(Sum.inl i,.bl true)
def addI(S:List Int)(i:Int):List Int:=if i∈S then S else S++[i]
theorem mem_addI:j∈addI S i↔j∈S\/j=i:=by
 unfold addI;split
 . rename_i h;exact⟨.inl,fun z=>z.elim id fun e=>by rw[e];exact h⟩
 . rw[Ap,Ao]
theorem aez:(valV (sK S) (Sum.inl i)).isSome=decide (i∈S):=by
 induction S with
 | nil=>simp[sK,valV]
 | cons j S ih =>
  unfold sK at ih |-;rw[Ar];by_cases z:j=i
  . rw[md (by rw[z])];simp[z]
  . rw[m7 (fun y=>z (Ed y)),ih];simp[AL z]
theorem zo:putK (sK S) (Sum.inl i) (.bl true)=sK (addI S i):=by
 unfold putK addI;have e:((sK S).any fun kv=>decide (kv.1=Sum.inl i))=decide (i∈S):=by
  unfold sK;rw[List.any_map];induction S with
  | nil=>rfl
  | cons j S ih =>
   rw[Cy,ih];by_cases z:j=i
   . simp[z]
   . simp[z,AL z]
 rw[e];by_cases z:i∈S
 . rw[if_pos (decide_eq_true z),if_pos z];unfold sK;rw[Bd];refine BE fun j _=>?_;show (if (Sum.inl j:Key)=Sum.inl i then _ else _)=_;split<;>rfl
 . rw[if_neg (by rw[decide_eq_false z];exact Ai),if_neg z];unfold sK;rw[Au];rfl
theorem ut:(putC cs i v).map (·.1)=if i∈cs.map (·.1) then cs.map (·.1) else cs.map (·.1)++[i]:=by
 unfold putC;have e:(cs.any fun c=>decide (c.1=i))=decide (i∈cs.map (·.1)):=by
  induction cs with
  | nil=>rfl
  | cons c cs ih =>
   rw[Cy,ih,Ar];by_cases z:c.1=i
   . simp[z]
   . simp[z,AL z]
 rw[e];by_cases z:i∈cs.map (·.1)
 . rw[if_pos (decide_eq_true z),if_pos z,Bd];refine BE fun c _=>?_;show (if c.1=i then _ else _:Int×Int×Int).1=_;split<;>rfl
 . rw[if_neg (by rw[decide_eq_false z];exact Ai),if_neg z,Au];rfl
theorem u8(h:(cs.map (·.1)).Nodup):((putC cs i v).map (·.1)).Nodup:=by
 rw[ut];split
 . exact h
 . rename_i z;exact Cq.mpr ⟨h,Dz _ _,fun y a w b e=>z (by rw[<- Ao.mp b,<- e];exact a)⟩
theorem a93(h:k∈(putC cs i v).map (·.1)):k∈cs.map (·.1)\/k=i:=by
 rw[ut] at h;split at h
 . exact .inl h
 . exact (Ap.mp h).imp id Ao.mp
theorem yd:(putC cs i v).length<=cs.length+1:=by
 have:((putC cs i v).map (·.1)).length<=(cs.map (·.1)).length+1:=by
  rw[ut];split
  . lia
  . rw[Aj];exact Ak _
 rw[Ad,Ad] at this;exact this
def BesG(H:Hp)(hp:List (Int×Addr))(zs:List Str)(F:Str->Int)(i:Int):Prop:=1<=i/\(∃k∈hp.map (·.1),i<k)/\(∀z∈zs,F z≠i)/\(∀k∈hp.map (·.1),k≠i)/\∀p∈hp,∀u v,H p.2=some (.tup [.int u,.int v])->u≠i/\v≠i
inductive spBeside(K:Ac)(vs:List V)(H:Hp)(Q:VK)(E:XK):Prop
 | mk (d sl vd a:Addr)(hp:List (Int×Addr))(ss ns:List Int)(zs:List Str)(F:Str->Int)(h0:vs=[.ref d,.ref vd,.ref a])(h1:HpL H d sl hp ss)(h2:hp.length<=6)(h3:H vd=some (.dK (vK zs F)))(h4:zs.length<=6)(h4':zs.Nodup)(h5:SqL K H a (ns.map V.int))(q:∀fo kvs bes H',Same H H'->H fo=none->H' fo=some (.dK kvs)->Paired (CellAt K H') kvs bes->(bes.map (·.1)).Nodup->bes.length<=6->(∀i∈bes.map (·.1),BesG H hp zs F i)->Q (.ref fo) H'):spBeside K vs H Q E
theorem a8b(C:Con K mg w)(F:Fun K "_law_beside" "_law_beside" a3g f fd)(GC:FnOk P w K mg base CX0 1 gC dC ["_law_script","_law_k"] (sn K))(cC:Cal K mg "_law_cell_at" gC dC ["_law_script","_law_k"])(GF:FnOk P w K mg base CX0 2 gF dF ["_law_cell","_law_k"] vn)(cF:Cal K mg "_law_fed" gF dF ["_law_cell","_law_k"])(GD:FnOk P w K mg base CX0 1 gD dD ["_law_digits","_law_many"] mj)(cD:Cal K mg "_law_digit" gD dD ["_law_digits","_law_many"]):FnOk P w K mg base CX0 3 f fd ["_law_heap_here","_law_values_here","_law_script"] (spBeside K):=by
 refine F.okA ["_law_heap_here","_law_values_here","_law_script","_law_said","_law_name","_law_spot","_law_found","_law_digits","_law_high","_law_k"] fun br A outer s0 H vs Q E hr h nd=>?_;have D:=kx hr;have ax:=hr.mono (j:=1) (by lia);refine⟨_,fw (gp 3 nd tm)
  (fw (a4c (jw AO rfl (yh (qv 1)) (jc 4 nd) (fz (jy D (qv 3) (ml D (qv 1) (qv 4) (fun _ _=>rfl)) ny))))
  (fw (a4c (jw AO rfl (yh (qv 0)) (jc 5 nd) (fw (jy D (qv 3) (qv 5) ny)
  (fw (jy D (qv 3) (gz K (ml D (qv 0) (qv 5) (fun _ _=>rfl)) fu) ny)
  (fz (jy D (qv 3) (gz K (ml D (qv 0) (qv 5) (fun _ _=>rfl)) fu) ny))))))
  (fw (gp 6 nd tm)
  (fw (gp 7 nd (gk GF hr cF (gw (gk GC ax cC (fy (qv 2) (gs ad))) (gs ad))))
  (fw (gp 8 nd (ii (a8c (K:=K) rfl rfl) rfl C.max HS (jb (gh ky (i8 (gs ad)) (i6 (sy rfl) rfl C.list Bh (fy (qv 0) ad))) ad)))
  (fw (jw AO rfl (kd rfl C.range (gw (gk GD ax cD (fy (qv 7) (gs ad))) ad)) (jc 9 nd) (fw (gp 5 nd (gh ij fu (gk GD ax cD (fy (qv 7) (jb (gh ij (qv 8) fu) ad)))))
  (fz (ie (QW.qt (ph (a0i D (qv 5) (qv 3)) (ng (gi qa (qv 5) (qv 8) (gn _))))) (fz (jy D (qv 6) (qv 5) (je (gw (gk GD ax cD (fy (qv 7) (jb (gh vj fu fu) ad))) (gj (i0 K (i8 (fy (qv 5) (gs (fy (qv 8) ad)))) (gh jo (qv 9) fu)) ad))))) iq))))
  (fz (gu (qv 6))))))))),?_⟩
 obtain⟨d,sl,s,a,hp,ss,ns,zs,F0,rfl,hH,bj,aw,bq,bp,hS,q⟩:=h;obtain⟨hd,hs,bk,bc,hnd,a1,bm⟩:=hH;have aR:(hK hp).map (fun kv=>kV kv.1)=(hp.map (·.1)).map V.int:=by unfold hK;rw[Bd,Bd];rfl
 refine g8 (a:=tAsg _ _) fun D1 aU _ _=>?_;intro g J;obtain⟨H1,z0,s1,k1⟩:=gr J (.dK []);change H1 g=some (.dK (sK [])) at k1;rw[z0];refine aU [some (.ref d),some (.ref s),some (.ref a),some (.ref g),none,none,none,none,none,none] _ ?_;clear aU;have aG:s≠g:=fun z=>by rw[z,J] at aw;cases aw
 have aj:d≠g:=fun z=>by rw[z,J] at hd;cases hd
 have U:∀{S:List Int} {n:Nat},S.length<=n->n<=900->(sK S).length<sizeLine:=fun h1 h2=>j6 (by unfold sK;rw[Ad];lia);have X:∀{S:List Int} {i:Int},(addI S i).length<=S.length+1:=fun {S i}=>by unfold addI;split;lia;rw[Aj];exact Ak _
 refine g8 (a:=a1a _ _) fun D2 aI _ _=>?_;refine⟨_,rfl,s,_,rfl,s1 _ _ aw,fun od nf=>?_⟩;refine a0m (fun i σ G=>∃(S:List Int) (W:Option V),σ=[some (.ref d),some (.ref s),some (.ref a),some (.ref g),W,none,none,none,none,none]/\(∀b o,H b=some o->b≠s->G b=some o)/\G s=some (.frz od (.dK (vK zs F0)))/\G g=some (.dK (sK S))/\S.length<=i/\∀j z,zs[j]? = some z->j<i->F0 z∈S) ⟨[],none,rfl,fun b o z nb=>by rw[fq nb];exact s1 _ _ z,ft,by rw[fq (AL aG)];exact k1,Ak _,fun j z _ h=>absurd h (Fi _)⟩ ?_ ?_ ?_
 . rintro i σ G hi ⟨S,W,rfl,_,h,_⟩;exact h
 . rintro i x σ G hx ⟨S,W,rfl,T,kv,ks,hl,mS⟩;rw[ac8,Am] at hx;obtain⟨y,hy,rfl⟩:=Bb.mp hx;have ba:i<zs.length:=(Aw.mp hy).1;have hg:DGet G s (.str y) (some (.int (F0 y))):=.inl ⟨_,Sum.inr y,.inr ⟨_,kv⟩,rfl,(wr (AE hy)).symm⟩;refine⟨_,rfl,_,rfl,_,rfl,s,_,rfl,hg,g,_,rfl,DPut.k (k:=Sum.inl (F0 y)) ks (U hl (by lia)),?_⟩;rw[zo];refine⟨addI S (F0 y),_,rfl,fun b o z nb=>by rw[fq (g6 z J)];exact T _ _ z nb,by rw[fq aG];exact kv,ft,Ax X (by lia),fun j z hz hj=>?_⟩;rw[mem_addI];rcases Gz j i with w|w
   . exact .inl (mS j z hz w)
   . have e:j=i:=by lia
     rw[e,hy] at hz;cases hz;exact .inr rfl
 rintro σ G ⟨S,W,rfl,T,kv,ks,hl,mS⟩;refine⟨s,od,_,kv,nf,aI _ _ ?_⟩;clear aI;have e2:Same H (upd G s (.dK (vK zs F0))):=fun b o z=>by
  by_cases w:b=s
  . rw[w,ft,<- aw,<- z,w]
  . rw[fq w];exact T _ _ z w
 have t:(upd G s (.dK (vK zs F0))) g=some (.dK (sK S)):=by rw[fq (AL aG)];exact ks
 have lz:(vK zs F0).length=zs.length:=by unfold vK;rw[Ad]
 rw[lz] at hl mS;generalize upd G s (.dK (vK zs F0))=H2 at e2 t |-;clear T kv ks nf od s1 k1;refine g8 (a:=a1a _ _) fun D3 aV _ _=>?_;refine⟨_,rfl,d,_,rfl,e2 _ _ hd,fun od nf=>?_⟩;have be:(hK hp).length=hp.length:=by unfold hK;rw[Ad]
 refine a0m (fun i σ G=>∃(l:List Int) (Y:Option V),σ=[some (.ref d),some (.ref s),some (.ref a),some (.ref g),W,Y,none,none,none,none]/\(∀b o,H b=some o->b≠d->G b=some o)/\G d=some (.frz od (.dK (hK hp)))/\G g=some (.dK (sK l))/\l.length<=6+3*i/\(∀j∈S,j∈l)/\∀j p,hp[j]? = some p->j<i->p.1∈l/\∀u v,H p.2=some (.tup [.int u,.int v])->u∈l/\v∈l) ⟨S,none,rfl,fun b o z nb=>by rw[fq nb];exact e2 _ _ z,ft,by rw[fq (AL aj)];exact t,by lia,fun _ h=>h,fun j z _ h=>absurd h (Fi _)⟩ ?_ ?_ ?_
 . rintro i σ G hi ⟨l,Y,rfl,_,h,_⟩;exact h
 . rintro i x σ G hx ⟨l,Y,rfl,T,kv,ks,aD,sub,af⟩;rw[aR,Am,Am] at hx;obtain⟨y,hy,rfl⟩:=Bb.mp hx;obtain⟨p,R,rfl⟩:=Bb.mp hy;have ba:i<hp.length:=(Aw.mp R).1;have aW:=AE R;obtain⟨u0,v0,hc⟩:=bc p aW;have aP:valV (hK hp) (Sum.inl p.1)=some (.ref p.2):=a8n hnd aW;have gt:∀{G':Hp},G' d=some (.frz od (.dK (hK hp)))->DGet G' d (.int p.1) (some (.ref p.2)):=fun h=>.inl ⟨_,Sum.inl p.1,.inr ⟨_,h⟩,rfl,aP.symm⟩;have a3:p.2≠d:=fun z=>by rw[z,hd] at hc;cases hc
   have aN:p.2≠g:=fun z=>by rw[z,J] at hc;cases hc
   refine g8 (a:=yj _ _ _) fun E1 ai _ _=>?_;refine⟨_,rfl,_,rfl,g,_,rfl,DPut.k (k:=Sum.inl p.1) ks (U aD (by lia)),?_⟩;rw[zo];refine ai [some (.ref d),some (.ref s),some (.ref a),some (.ref g),W,some (.int p.1),none,none,none,none] _ ?_;clear ai;refine g8 (a:=yj _ _ _) fun E2 aT _ _=>?_;have az:(upd G g (.dK (sK (addI l p.1)))) d=some (.frz od (.dK (hK hp))):=by rw[fq aj];exact kv
   have aE:(upd G g (.dK (sK (addI l p.1)))) p.2=some (.tup [.int u0,.int v0]):=by rw[fq aN];exact T _ _ hc a3
   have ac:∀b o,H b=some o->b≠d->(upd G g (.dK (sK (addI l p.1)))) b=some o:=fun b o z nb=>by rw[fq (g6 z J)];exact T _ _ z nb
   have O:(upd G g (.dK (sK (addI l p.1)))) g=some (.dK (sK (addI l p.1))):=ft;generalize upd G g (.dK (sK (addI l p.1)))=L at az aE ac O |-;have l1:(addI l p.1).length<=6+3*i+1:=Ax X (by lia);refine⟨_,rfl,_,rfl,_,rfl,d,_,rfl,gt az,p.2,_,0,_,rfl,rfl,SqT.of aE,rfl,g,_,rfl,DPut.k (k:=Sum.inl u0) O (U l1 (by lia)),?_⟩;rw[zo];refine aT [some (.ref d),some (.ref s),some (.ref a),some (.ref g),W,some (.int p.1),none,none,none,none] _ ?_;clear aT;have aC:(upd L g (.dK (sK (addI (addI l p.1) u0)))) d=some (.frz od (.dK (hK hp))):=by rw[fq aj];exact az
   have aS:(upd L g (.dK (sK (addI (addI l p.1) u0)))) p.2=some (.tup [.int u0,.int v0]):=by rw[fq aN];exact aE
   have ak:∀b o,H b=some o->b≠d->(upd L g (.dK (sK (addI (addI l p.1) u0)))) b=some o:=fun b o z nb=>by rw[fq (g6 z J)];exact ac _ _ z nb
   have t:(upd L g (.dK (sK (addI (addI l p.1) u0)))) g=some (.dK (sK (addI (addI l p.1) u0))):=ft;generalize upd L g (.dK (sK (addI (addI l p.1) u0)))=G2 at aC aS ak t |-;have l2:(addI (addI l p.1) u0).length<=6+3*i+2:=Ax X (by lia);refine⟨_,rfl,_,rfl,_,rfl,d,_,rfl,gt aC,p.2,_,1,_,rfl,rfl,SqT.of aS,rfl,g,_,rfl,DPut.k (k:=Sum.inl v0) t (U l2 (by lia)),?_⟩;rw[zo];have up:∀{j:Int},j∈l->j∈addI (addI (addI l p.1) u0) v0:=fun h=>mem_addI.mpr (.inl (mem_addI.mpr (.inl (mem_addI.mpr (.inl h)))));refine⟨addI (addI (addI l p.1) u0) v0,_,rfl,fun b o z nb=>by rw[fq (g6 z J)];exact ak _ _ z nb,by rw[fq aj];exact aC,ft,Ax X (by lia),fun j hj=>up (sub j hj),fun j p' ah hj=>?_⟩;rcases Gz j i with w|w
   . obtain⟨h1,h2⟩:=af j p' ah w;exact⟨up h1,fun u v h=>⟨up (h2 u v h).1,up (h2 u v h).2⟩⟩
   . have e:j=i:=by lia
     rw[e,R] at ah;cases ah;refine⟨mem_addI.mpr (.inl (mem_addI.mpr (.inl (mem_addI.mpr (.inr rfl))))),fun u v h=>?_⟩;rw[hc] at h;cases h;exact⟨mem_addI.mpr (.inl (mem_addI.mpr (.inr rfl))),mem_addI.mpr (.inr rfl)⟩
 rintro σ G ⟨l,Y,rfl,T,kv,ks,aD,sub,af⟩;refine⟨d,od,_,kv,nf,aV _ _ ?_⟩;clear aV;have e3:Same H (upd G d (.dK (hK hp))):=fun b o z=>by
  by_cases w:b=d
  . rw[w,ft,<- hd,<- z,w]
  . rw[fq w];exact T _ _ z w
 have ao:(upd G d (.dK (hK hp))) g=some (.dK (sK l)):=by rw[fq (AL aj)];exact ks
 rw[be] at aD af;generalize upd G d (.dK (hK hp))=H3 at e3 ao |-;clear T kv ks nf od e2 t;refine g8 (a:=tAsg _ _) fun D4 aJ _ _=>?_;intro I ar;obtain⟨H4,z1,s4,k4⟩:=gr ar (.dK []);dsimp only[gq];rw[z1];refine aJ [some (.ref d),some (.ref s),some (.ref a),some (.ref g),W,Y,some (.ref I),none,none,none] _ ?_;clear aJ;have a0:H I=none:=e3.free ar;have bd:I≠g:=fun z=>by rw[z,ao] at ar;cases ar
 refine g8 (a:=tAsg _ _) fun D5 aH _ _=>?_;refine⟨_,rfl,a,ns,9,rfl,(e3.trans s4).seq hS,kn ns 9,17,rfl,fun dl aa=>?_⟩;obtain⟨H5,z2,s5,k5⟩:=gr aa (.lst [.int (fedF (kn ns 9) 17)]);dsimp only[gq];rw[z2];generalize fedF (kn ns 9) 17=n5 at k5;have e4:=e3.trans s4;have e5:=e4.trans s5;have a6:H dl=none:=e4.free aa;have al:dl≠g:=fun z=>by rw[z,s4 _ _ ao] at aa;cases aa
 have an:dl≠I:=fun z=>by rw[z,k4] at aa;cases aa
 refine aH [some (.ref d),some (.ref s),some (.ref a),some (.ref g),W,Y,some (.ref I),some (.ref dl),none,none] _ ?_;clear aH;refine g8 (a:=tAsg _ _) fun D6 aQ _ _=>?_;refine⟨(show 1<=sizeLine by decide),fun u hu=>?_⟩;obtain⟨H6,z3,s6,k6⟩:=gr hu (.lst [V.int 0]);rw[z3];refine⟨_,rfl,d,_,rfl,s6 _ _ (e5 _ _ hd),fun u2 a7=>?_⟩;rw[aR];obtain⟨H7,z4,s7,k7⟩:=gr a7 (.lst ((hp.map (·.1)).map V.int));rw[z4];refine⟨u,u2,_,_,rfl,rfl,s7 _ _ k6,k7,ia (by rw[Ad,Ad];show 1+_<=1000;lia),fun u3 bf=>?_⟩;obtain⟨H8,z5,s8,k8⟩:=gr bf (.lst ([V.int 0]++(hp.map (·.1)).map V.int));change H8 u3=some (.lst ((0::hp.map (·.1)).map V.int)) at k8;rw[z5];refine .mk u3 (0::hp.map (·.1)) rfl (SqL.of k8) (by simp) fun M hM a9=>?_;dsimp only[gq];have aq:=(s6.trans s7).trans s8;refine aQ [some (.ref d),some (.ref s),some (.ref a),some (.ref g),W,Y,some (.ref I),some (.ref dl),some (.int M),none] _ ?_;clear aQ;have bs:0<=M:=a9 0 Af;have bi:M<1000000000000000000000000000000000000000000000000000000000000:=by
  rcases Ah.mp hM with z|z
  . rw[z];decide
  . exact (a1 M z).2
 have e8:=e5.trans aq;refine g8 (a:=tFor _ _ _) fun D7 a8 _ _=>?_;refine⟨_,rfl,dl,n5,6,rfl,aq _ _ k5,(by decide),(by decide),?_⟩;obtain⟨N,hN,bo⟩:∃N:Nat,n5 % 6=(N:Int)/\N<6:=⟨(n5 % 6).toNat,by lia,by lia⟩
 refine⟨(N:Int),congrArg (fun x=>[V.int x]) hN,by lia,by lia,?_⟩;rw[Bo];have aB:∀{G:Hp} {o:HO},Same H G->Same H (upd G dl o):=fun e b u z=>by rw[fq (g6 z a6)];exact e _ _ z
 refine ku (fun i σ G=>∃(n:Int) (kvs:List (Key×V)) (bes:List (Int×Int×Int)) (Y z9:Option V),σ=[some (.ref d),some (.ref s),some (.ref a),some (.ref g),W,Y,some (.ref I),some (.ref dl),some (.int M),z9]/\Same H G/\G g=some (.dK (sK l))/\G dl=some (.lst [.int n])/\G I=some (.dK kvs)/\Paired (CellAt K G) kvs bes/\(bes.map (·.1)).Nodup/\bes.length<=i/\∀j∈bes.map (·.1),BesG H hp zs F0 j) ⟨n5 / 6,[],[],Y,none,rfl,aB e8,by rw[fq (AL al)];exact aq _ _ (s5 _ _ (s4 _ _ ao)),ft,by rw[fq (AL an)];exact aq _ _ (s5 _ _ k4),.nil,E8,Ak _,fun j h=>by cases h⟩ ?_ ?_
 . rintro i σ G hi ⟨n,kvs,bes,Y,z9,rfl,T,ay,av,ap,pr,bn,bl,bg⟩;rw[Ez];dsimp only[gq];refine g8 (a:=tAsg _ _) fun E1 ai _ _=>?_;refine⟨_,rfl,_,rfl,_,_,rfl,rfl,dl,n,M+1,rfl,av,(by lia),(by lia),_,_,rfl,rfl,?_⟩;have r0:=B8 n (show M+1≠0 by lia);have ac:=aB (o:=.lst [.int (n / (M+1))]) T;have O:(upd G dl (.lst [.int (n / (M+1))])) g=some (.dK (sK l)):=by rw[fq (AL al)];exact ay
   have aF:(upd G dl (.lst [.int (n / (M+1))])) I=some (.dK kvs):=by rw[fq (AL an)];exact ap
   have ag:(upd G dl (.lst [.int (n / (M+1))])) dl=some (.lst [.int (n / (M+1))]):=ft;have aA:Paired (CellAt K (upd G dl (.lst [.int (n / (M+1))]))) kvs bes:=Paired.mapP pr fun _ _ z=>z.keep fun b o z _ _ i3=>by rw[fq (fun y=>by rw[y,av] at z;exact i3 _ (A0 z).symm)];exact z
   dsimp only[gq];generalize upd G dl (.lst [.int (n / (M+1))])=L at ac O aF ag aA |-;generalize n % (M+1)=Z at r0;generalize n / (M+1)=n1 at ag;refine ai [some (.ref d),some (.ref s),some (.ref a),some (.ref g),W,some (.int (1+Z)),some (.ref I),some (.ref dl),some (.int M),some (.int (i:Int))] _ ?_;clear ai T ay av ap pr;have stay:∃(n:Int) (kvs:List (Key×V)) (bes:List (Int×Int×Int)) (Y z9:Option V),[some (.ref d),some (.ref s),some (.ref a),some (.ref g),W,some (.int (1+Z)),some (.ref I),some (.ref dl),some (.int M),some (.int (i:Int))]=[some (.ref d),some (.ref s),some (.ref a),some (.ref g),W,Y,some (.ref I),some (.ref dl),some (.int M),z9]/\Same H L/\L g=some (.dK (sK l))/\L dl=some (.lst [.int n])/\L I=some (.dK kvs)/\Paired (CellAt K L) kvs bes/\(bes.map (·.1)).Nodup/\bes.length<=i+1/\∀j∈bes.map (·.1),BesG H hp zs F0 j:=⟨n1,kvs,bes,_,_,rfl,ac,O,ag,aF,aA,bn,by lia,bg⟩
   refine⟨_,rfl,_,rfl,g,_,rfl,DGet.k (k:=Sum.inl (1+Z)) O,_,rfl,?_⟩;rw[aez];refine iteB (fun c1=>⟨_,rfl,_,rfl,_,_,rfl,rfl,_,rfl,iteB (fun c2=>?_) (fun _=>stay)⟩) (fun c1=>(if_neg Ai).mpr stay);have au:¬ (1+Z)∈l:=fun z=>by rw[decide_eq_true z] at c1;cases c1
   have a5:1+Z<M:=of_decide_eq_true c2;have a4:M∈hp.map (·.1):=by
    rcases Ah.mp hM with z|z
    . lia
    . exact z
   have hG:BesG H hp zs F0 (1+Z):=by
    refine⟨by lia,⟨M,a4,a5⟩,fun z hz e=>?_,fun k hk e=>?_,fun p' R u v h=>?_⟩
    . obtain⟨j,hj⟩:=Cn hz;exact au (by rw[<- e];exact sub _ (mS j z hj (Aw.mp hj).1))
    . obtain⟨p',R,e'⟩:=Az.mp hk;obtain⟨j,hj⟩:=Cn R;exact au (by rw[<- e,<- e'];exact (af j p' hj (Aw.mp hj).1).1)
    . obtain⟨j,hj⟩:=Cn R;have h2:=(af j p' hj (Aw.mp hj).1).2 u v h;exact⟨fun e=>au (by rw[<- e];exact h2.1),fun e=>au (by rw[<- e];exact h2.2)⟩
   have aX:(0:Int)<10 ^ (20:Int).toNat/\(10:Int) ^ (20:Int).toNat<=10 ^ 60:=by decide +kernel
   refine⟨_,rfl,_,_,rfl,rfl,(show CPow 10 20 from⟨by decide,by decide,by decide⟩),dl,n1,10 ^ (20:Int).toNat,rfl,ag,aX.1,aX.2,_,rfl,_,rfl,(show 3<=sizeLine by decide),fun w hw=>?_⟩;generalize n1 % 10 ^ (20:Int).toNat=ab;generalize n1 / 10 ^ (20:Int).toNat=n2 at hw |-;have ak:=aB (o:=.lst [.int n2]) ac;have t:(upd L dl (.lst [.int n2])) g=some (.dK (sK l)):=by rw[fq (AL al)];exact O
   have aO:(upd L dl (.lst [.int n2])) I=some (.dK kvs):=by rw[fq (AL an)];exact aF
   have aZ:(upd L dl (.lst [.int n2])) dl=some (.lst [.int n2]):=ft;have aY:Paired (CellAt K (upd L dl (.lst [.int n2]))) kvs bes:=Paired.mapP aA fun _ _ z=>z.keep fun b o z _ _ i3=>by rw[fq (fun y=>by rw[y,ag] at z;exact i3 _ (A0 z).symm)];exact z
   generalize upd L dl (.lst [.int n2])=G2 at ak t aO aZ aY hw |-;obtain⟨G3,z6,s3,k3⟩:=gr hw (.lst [V.int (1+Z),V.int 0,V.int M]);rw[z6];obtain⟨v2,bh,aM⟩:=mq (xs:=[V.int (1+Z),V.int 0,V.int M]) (m:=3) (i:=(i:Int)) rfl (by decide);obtain⟨ae,rfl⟩:∃c:Int,v2=.int c:=by
    simp only[Ah,Ay,or_false] at aM;rcases aM with h|h|h<;>exact⟨_,h⟩
   refine⟨_,rfl,_,_,rfl,rfl,(show (0:Int)<3 by decide),w,_,_,_,rfl,rfl,SqL.of k3,bh,(show 2<=sizeLine by decide),fun r a2=>?_⟩;obtain⟨G4,z7,s4,k4⟩:=gr a2 (.tup [V.int ab,V.int ae]);dsimp only;rw[z7];have am:=s3.trans s4;have aK:Paired (CellAt K G4) kvs bes:=Paired.mapP aY fun _ _ z=>z.keep fun b o z _ _ _=>am _ _ z;have aL:=am _ _ aO;refine⟨_,rfl,_,rfl,I,_,rfl,DPut.k (k:=Sum.inl (1+Z)) aL (j6 (by rw[AB aK];lia)),?_⟩;have bb:=uy (i:=1+Z) (v:=(ab,ae)) (r:=r) aK (SqT.of k4);refine⟨n2,_,putC bes (1+Z) (ab,ae),_,_,rfl,fun b o z=>by rw[fq (g6 z a0)];exact am _ _ (ak _ _ z),by rw[fq (AL bd)];exact am _ _ t,by rw[fq an];exact am _ _ aZ,ft,Paired.mapP bb fun _ _ z=>z.keep fun b o z _ i2 _=>by rw[fq (fun y=>by rw[y,aL] at z;exact i2 _ (A0 z).symm)];exact z,u8 bn,Ax yd (by lia),fun j hj=>?_⟩;rcases a93 hj with h|h
   . exact bg j h
   . rw[h];exact hG
 . rintro σ G ⟨n,kvs,bes,Y,z9,rfl,T,ay,av,ap,pr,bn,bl,bg⟩;exact a8 _ _ ⟨_,rfl,q I kvs bes G T a0 ap pr bn (by lia) bg⟩
abbrev Cl:=Int×Int×Int
theorem rl(h:getC cs i=some v):(i,v)∈cs:=by
 unfold getC at h;obtain⟨c,hc,rfl⟩:=Bb.mp h;have a:=List.find?_some hc;have e:c.1=i:=of_decide_eq_true a;rw[<- e];exact List.mem_of_find?_eq_some hc
theorem zu(hn:(cs.map (·.1)).Nodup)(h:(i,v)∈cs):getC cs i=some v:=by
 induction cs with
 | nil=>cases h
 | cons c cs ih =>
  rw[Ar,AU] at hn;unfold getC at ih |-;rw[BJ];rcases Ah.mp h with z|z
  . rw[<- z,decide_eq_true rfl];rfl
  . have ne:¬ c.1=i:=fun e=>hn.1 (by rw[e];exact Br (f:=(·.1)) z);rw[decide_eq_false ne];exact ih hn.2 z
section
def NoB(bes:List Cl)(v:Int):Prop:=v∉bes.map (·.1)
structure Good(bes:List Cl)(s:PM):Prop where
 f:∀f∈s.frs,∀y,NoB bes (f.F y)
 c:∀c∈s.cs,NoB bes c.1/\NoB bes c.2.1/\NoB bes c.2.2
 b:∀b∈bes.map (·.1),1<=b/\b<=s.g
 nn:(s.cs.map (·.1)).Nodup
structure Sim(bes:List Cl)(s1 s2:PM):Prop where
 f:s2.frs=s1.frs
 g:s2.g=s1.g
 w:s2.fallen=s1.fallen
 p:s2.cs.Perm (s1.cs++bes)
theorem ua(hb:(bes.map (·.1)).Nodup)(hn:(cs.map (·.1)).Nodup)(hc:∀c∈cs,NoB bes c.1):((cs++bes).map (·.1)).Nodup:=by
 rw[Au];refine Cq.mpr ⟨hn,hb,fun x f y d e=>?_⟩;obtain⟨c,b,a⟩:=Az.mp f;exact hc c b (by rw[a,e];exact d)
theorem a3t(hb:(bes.map (·.1)).Nodup)(hn:(cs.map (·.1)).Nodup)(hc:∀c∈cs,NoB bes c.1)(hp:a.Perm (cs++bes))(hi:NoB bes i):getC a i=getC cs i:=by
 have n2:(a.map (·.1)).Nodup:=(hp.map (·.1)).nodup_iff.mpr (ua hb hn hc);cases e:getC cs i with
 | some v=>exact zu n2 (hp.mem_iff.mpr (AD _ (rl e)))
 | none =>
  cases e2:getC a i with
  | none=>rfl
  | some v =>
   rcases Ap.mp (hp.mem_iff.mp (rl e2)) with z|z
   . rw[zu hn z] at e;cases e
   . exact absurd (Br (f:=fun c:Cl=>c.1) z) hi
theorem a2h{cs:List Cl}:(cs.any fun c=>decide (c.1=i))=decide (i∈cs.map (·.1)):=by
 induction cs with
 | nil=>rfl
 | cons c cs ih =>
  rw[Cy,ih,Ar];by_cases z:c.1=i
  . simp[z]
  . simp[z,AL z]
theorem a40(hp:a.Perm (cs++bes))(hi:NoB bes i):(putC a i v).Perm (putC cs i v++bes):=by
 unfold putC;rw[a2h,a2h];have e:(i∈a.map (·.1))↔i∈cs.map (·.1):=by
  rw[(hp.map (·.1)).mem_iff,Au,Ap];exact⟨fun z=>z.elim id fun w=>absurd w hi,.inl⟩
 by_cases z:i∈cs.map (·.1)
 . rw[if_pos (decide_eq_true (e.mpr z)),if_pos (decide_eq_true z)];have h:=hp.map fun c:Cl=>if c.1=i then (c.1,v) else c
   rw[Au] at h;have d:(bes.map fun c:Cl=>if c.1=i then (c.1,v) else c)=bes:=by
    have b:bes.map (fun c:Cl=>if c.1=i then (c.1,v) else c)=bes.map id:=BE fun c hc=>if_neg fun w=>hi (by rw[<- w];exact Br (f:=(·.1)) hc);rw[b,Do]
   rw[d] at h;exact h
 . rw[if_neg (by rw[decide_eq_false (fun w=>z (e.mp w))];exact Ai),if_neg (by rw[decide_eq_false z];exact Ai),Cb];refine (hp.append_right _).trans ?_;rw[Cb];exact (HV).append_left cs
theorem a8y(hp:a.Perm (cs++bes))(hi:NoB bes i):(u6 a i).Perm (u6 cs i++bes):=by
 unfold u6;have h:=hp.filter fun c:Cl=>decide (c.1≠i);rw[DD] at h;have b:(bes.filter fun c:Cl=>decide (c.1≠i))=bes:=Iq.mpr fun c hc=>decide_eq_true fun w=>hi (by rw[<- w];exact Br (f:=(·.1)) hc);rw[b] at h;exact h
theorem a9e(h:c∈putC cs i v):c∈cs\/c=(i,v):=by
 unfold putC at h;split at h
 . obtain⟨d,b,a⟩:=Az.mp h;split at a
   . rename_i e;rw[<- a,e];exact .inr rfl
   . rw[<- a];exact .inl b
 . exact (Ap.mp h).imp id Ao.mp
theorem a14(h0:NoB bes 0)(h:∀y,NoB bes (F y))(y:Str):NoB bes (nilF F y):=by
 unfold nilF upF;split
 . exact h0
 . exact h y
theorem vo(h:∀y,NoB bes (F y))(a:NoB bes v)(y:Str):NoB bes (upF F x v y):=by
 unfold upF;split
 . exact a
 . exact h y
variable{bes:List Cl}{pcs:List Prc} in
theorem qe:∀(n:Nat) (l:List PF),(∀f∈l,∀y,NoB bes (f.F y))->∀f∈j4 pcs n l,∀y,NoB bes (f.F y)
 | 0,l,h=>by
  have e:j4 pcs 0 l=l:=by cases l<;>rfl
  rw[e];exact h
 | n+1,[],h=>h
 | n+1,[a],h=>h
 | n+1,a::b::r,h=>by
  show ∀f∈(if (lx pcs a).isNone=true then j4 pcs n (uj pcs a b::r) else a::b::r),_;split
  . refine qe n _ fun f c=>?_;rcases Ah.mp c with rfl|z
    . unfold uj;split
      . exact h b (by simp)
      . exact vo (h b (by simp)) (h a (by simp) _)
    . exact h f (by simp[z])
  . exact h
theorem a6k(hb:(bes.map (·.1)).Nodup)(h0:NoB bes 0)(w:List Str)(k:∀y,NoB bes (F y))(hc:∀c∈cs,NoB bes c.1/\NoB bes c.2.1/\NoB bes c.2.2)(hn:(cs.map (·.1)).Nodup)(j:∀b∈bes.map (·.1),1<=b/\b<=g)(hp:d.Perm (cs++bes)):
 (iw w F d g).1=(iw w F cs g).1/\(iw w F d g).2.2=(iw w F cs g).2.2/\(iw w F d g).2.1.Perm ((iw w F cs g).2.1++bes)/\(∀y,NoB bes ((iw w F cs g).1 y))/\(∀c∈(iw w F cs g).2.1,NoB bes c.1/\NoB bes c.2.1/\NoB bes c.2.2)/\((iw w F cs g).2.1.map (·.1)).Nodup/\(∀b∈bes.map (·.1),1<=b/\b<=(iw w F cs g).2.2):=by
 have a:=a14 h0 k;have old:∀{i:Int},NoB bes i->oldC d i=oldC cs i/\NoB bes (oldC cs i).1/\NoB bes (oldC cs i).2:=fun {i} hi=>by
  unfold oldC;rw[a3t hb hn (fun c h=>(hc c h).1) hp hi];refine⟨rfl,?_⟩;cases e:getC cs i with
  | none=>exact⟨h0,h0⟩
  | some v=>exact (hc _ (rl e)).2
 have f:NoB bes (g+1):=fun z=>by have:=(j _ z).2;lia
 have pg:∀{i:Int} {v:Int×Int},NoB bes i->NoB bes v.1->NoB bes v.2->∀c∈putC cs i v,NoB bes c.1/\NoB bes c.2.1/\NoB bes c.2.2:=fun hi t s c h=>by
  rcases a9e h with z|z
  . exact hc c z
  . rw[z];exact⟨hi,t,s⟩
 unfold iw;by_cases n:wAt w 0 = "set"
 . rw[if_pos n,if_pos n];exact⟨rfl,rfl,hp,vo k (a _),hc,hn,j⟩
 rw[if_neg n,if_neg n];by_cases l:wAt w 0 = "read"
 . rw[if_pos l,if_pos l];obtain⟨r,p,q⟩:=old (a (wAt w 2));refine⟨by rw[r],rfl,hp,vo k ?_,hc,hn,j⟩;split
   . exact p
   . exact q
 rw[if_neg l,if_neg l];by_cases o:wAt w 0 = "write"
 . rw[if_pos o,if_pos o];obtain⟨r,p,q⟩:=old (a (wAt w 1));rw[r];refine⟨rfl,rfl,a40 hp (a _),k,?_,u8 hn,j⟩;split
   . exact pg (a _) (a _) q
   . exact pg (a _) p (a _)
 rw[if_neg o,if_neg o];by_cases m:wAt w 0 = "new"
 . rw[if_pos m,if_pos m];exact⟨rfl,rfl,a40 hp f,vo k f,pg f (a _) (a _),u8 hn,fun b h=>⟨(j b h).1,by have:=(j b h).2;show b<=g+1;lia⟩⟩
 rw[if_neg m,if_neg m];refine⟨rfl,rfl,a8y hp (a _),k,fun c h=>hc c ((CY.mp h).1),?_,j⟩;exact hn.sublist (List.filter_sublist.map _)
theorem Sim.step(hb:(bes.map (·.1)).Nodup)(S:Sim bes o C)(G:Good bes o):Sim bes (ju pcs o) (ju pcs C)/\Good bes (ju pcs o):=by
 obtain⟨fr,cs,g,L⟩:=o;obtain⟨a,b,g',i⟩:=C;obtain⟨u,D,s,hp⟩:=S;dsimp only at u D s hp;subst u D s;obtain⟨n,l,m,j⟩:=G;dsimp only at n l m j;have h0:NoB bes 0:=fun z=>by have:=(m _ z).1;lia
 have stay:Sim bes ⟨a,cs,g',i⟩ ⟨a,b,g',i⟩/\Good bes ⟨a,cs,g',i⟩:=⟨⟨rfl,rfl,rfl,hp⟩,⟨n,l,m,j⟩⟩
 unfold ju;dsimp only;cases i with
 | true=>rw[if_pos rfl,if_pos rfl];exact stay
 | false =>
  rw[if_neg Ai,if_neg Ai];cases a with
  | nil=>exact stay
  | cons f r =>
   dsimp only;cases hd:lx pcs f with
   | none=>exact stay
   | some d =>
    dsimp only;have p:=n f Af;have t:=a14 h0 p;have H:ln b f.F d=ln cs f.F d:=by
     unfold ln;cases oj d with
     | none=>rfl
     | some x=>exact congrArg Option.isNone (a3t hb j (fun c h=>(l c h).1) hp (t x))
    rw[H];cases hm:ln cs f.F d with
    | true=>exact⟨⟨rfl,rfl,rfl,hp⟩,⟨n,l,m,j⟩⟩
    | false =>
     rw[if_neg Ai,if_neg Ai];have q:∀e∈r,∀y,NoB bes (e.F y):=fun e h=>n e (Al _ h);have A:∀pl:Pre×Nat,Sim bes ⟨j4 pcs (r.length+1) (ly pcs f pl::r),cs,g',false⟩ ⟨j4 pcs (r.length+1) (ly pcs f pl::r),b,g',false⟩/\Good bes ⟨j4 pcs (r.length+1) (ly pcs f pl::r),cs,g',false⟩:=fun pl=>⟨⟨rfl,rfl,rfl,hp⟩,⟨qe _ _ fun e h=>by
      rcases Ah.mp h with rfl|z
      . exact p
      . exact q e z,l,m,j⟩⟩
     cases d with
     | cond cr ca cb=>exact A _
     | loop cr FF PP ca=>exact A _
     | plain pl =>
      cases pl with
      | row w =>
       obtain⟨p1,p2,p3,p4,I,J,E⟩:=a6k hb h0 w p l j m hp;refine⟨⟨?_,p2,rfl,p3⟩,⟨qe _ _ fun e h=>?_,I,E,J⟩⟩
       . show j4 pcs _ ({ ly pcs f (f.pp,f.k+1) with F:=(iw w f.F b g').1 }::r)=j4 pcs _ ({ ly pcs f (f.pp,f.k+1) with F:=(iw w f.F cs g').1 }::r);rw[p1]
       . rcases Ah.mp h with rfl|z
         . exact p4
         . exact q e z
      | call x c ws =>
       refine⟨⟨rfl,rfl,rfl,hp⟩,⟨qe _ _ fun e h=>?_,l,m,j⟩⟩;rcases Ah.mp h with rfl|z
       . intro y;show NoB bes (qf _ ws f.F y);unfold qf;cases ((psP pcs (idxP pcs c)).zip ws).lookup y with
         | none=>exact h0
         | some v=>exact t v
       . rcases Ah.mp z with rfl|z
         . exact p
         . exact q e z
end
inductive spByX(K:Ac)(vs:List V)(H:Hp)(Q:VK)(E:XK):Prop
 | mk (l:Addr)(ts:List Addr)(ns:List Str)(h0:vs=[.ref l])(h1:H l=some (.lst (ts.map V.ref)))(h2:Paired (fun t n=>∃us,H t=some (.tup (.str n::us))) ts ns)(h3:ns.Nodup)(h4:ts.length<=10)(q:∀d H',Same H H'->H d=none->H' d=some (.dK ((byK ns ts).map kk))->Q (.ref d) H'):spByX K vs H Q E
inductive spMInitX(K:Ac)(CM CF:Addr)(bs:List Nat)(vs:List V)(H:Hp)(Q:VK)(E:XK):Prop
 | mk (G:Hp)(m dx l q0 nm hd:Addr)(x:Str)(ts:List Addr)(pcs:List Prc)(j:Nat)(pc:Prc)(xs:List Str)(kvs cvs:List (Key×V))(ns:List Int)(pp:Pre)(k:Nat)(due:Pre×Nat)(h0:vs=[.ref m,.ref l,.str x,.ref q0,.ref nm,.ref hd])(eG:Same G H)(hm:G m=none)(hm1:H m=some (.ins CM dx []))(hl:G l=some (.lst (ts.map V.ref)))(hp:Paired (PrcAt K G bs) ts pcs)(hn:(pcs.map (·.name)).Nodup)(h10:pcs.length<=10)(hj:pcs[j]? = some pc)(hx:pc.name=x)(hok:PrcOk bs xs pc)(hq:SqT K G q0 ((flat pp++[(k:Int)]).map V.int))(hst:∀G' bd,ListX K G' bs bd pc.body->∃e,Stands G' bd pp k due e)(hpp:pp.length<=40)(hnm:G nm=some (.dK kvs))(hhd:G hd=some (.dK cvs))(hns:cvs.map (·.1)=ns.map Sum.inl)(q:∀G1 pd fl p dxp q1 nd cd pr bd prs fsm fs zs g H',MNew K CM CF bs G H' m dx pcs pc j kvs cvs due ns G1 pd fl p dxp q1 nd cd pr bd prs fsm fs zs g->(∀b,G b=none->H b≠none->G1 b=none)->jq m H H'->(∀b,b=cd\/b=fl\/b=p\/b=nd->H b=none)->Q .non H'):spMInitX K CM CF bs vs H Q E
theorem ae5(C:Con K mg w)(F:Fun K "by_names" "by_names" xu f fd):FnOk P w K mg base CX0 1 f fd ["program"] (spByX K):=by
 refine F.okA ["program"] fun M A outer T H vs Q E O h nd=>?_;obtain⟨l,ts,ns,rfl,hl,g,hnd,J,q⟩:=h;refine⟨_,(fz (gu (i6 (yq (K:=K) rfl rfl) rfl C.dict BG (jf (qp (mh (qv 0)) (fun _ _ _ _=>ni) (fun _ _ _ _=>(je (gj (gz K (qv 0) fu) (fy (qv 0) ad))))) ad)))),?_⟩;have p:=AB g;refine⟨_,rfl,l,rfl,⟨_,SqL.of hl⟩,?_⟩;refine pf (ts.map V.ref) (ns.zip ts) (fun D G y (x:Str×Addr)=>∃b,y=V.ref b/\b≠D/\G b=some (.tup [.str x.1,.ref x.2])) id pk (SqL.of hl) (by rw[Ad];lia) (by rw[Ad,DF];lia) (fun D G U y x z e=>?_) (fun D u j x r o k s i a S I=>?_) (fun D s ys u i a hpt=>?_)
 . obtain⟨b,rfl,nb,hb⟩:=z;exact⟨b,rfl,nb,e _ _ hb nb⟩
 . rw[Am] at o;obtain⟨t,ht,rfl⟩:=Bb.mp o;obtain⟨n,hn,us,v⟩:=Paired.nth g ht;have m:r=(n,t):=by
    have:(ns.zip ts)[j]? = some (n,t):=List.getElem?_zip_eq_some.mpr ⟨hn,ht⟩;rw[k] at this;exact A0 this
   subst m;refine⟨_,rfl,t,_,0,_,rfl,rfl,SqT.of (i _ _ v),at0,_,rfl,(show 2<=sizeLine by decide),fun b hb=>I (.ref b) _ (gc hb _) ⟨b,rfl,fun z=>?_,ft⟩⟩;rw[z] at hb;exact a hb
 rw[Do] at hpt;obtain⟨us,rfl,c⟩:=mt (R:=fun b (x:Str×Addr)=>b≠D/\s b=some (.tup [.str x.1,.ref x.2])) hpt;have L:(ns.zip ts).length=ns.length:=by rw[DF];lia
 have N:=AB c;refine⟨D,us,byK ns ts,rfl,SqL.of a,?_,?_,(by lia),fun d hd=>q d _ (i.trans (gc hd _)) (i.free hd) ft⟩
 . exact a16 c
 . unfold byK;rw[Bd];show ((ns.zip ts).map (·.1)).Nodup;rw[List.map_fst_zip (by lia)];exact hnd
theorem a62(C:Con K mg w)(T:TxM K mg s fI)(U:TxF K mg CF fJ)(F:Fun K "__init__" "Machine.__init__" a2f f fd)(GO:FnOk P w K mg base CX0 n gO dO ["deeds"] (spCopy K bs))(cO:Cal K mg "own_deeds" gO dO ["deeds"])(GB:FnOk P w K mg base CX0 1 gB dB ["program"] (spByX K))(cB:Cal K mg "by_names" gB dB ["program"])(GI:FnOk P w K mg base CX0 n fJ dI ["self","procedure","path","numbers","receiver"] (spFInit K CF bs))(bI:Binds K dI ["self","procedure","path","numbers","receiver"] []):FnOk P w K mg base CX0 (n+1+1) f fd ["self","program","name","path","values","heap"] (spMInitX K s CF bs):=by
 refine F.okA ["self","program","name","path","values","heap"] fun bj A outer s0 H vs Q E hr h nd=>?_;obtain⟨G,m,dx,l,q0,nm,hd,x,ts,pcs,j,pc,xs,kvs,I,ns,pp,k,due,rfl,eG,hm,au,hl,hp,aD,bi,hj,hx,hok,hq,a8,W,aV,aC,aR,q⟩:=h;have aO:=kx hr;have be:=hr.mono (j:=1) (by lia);have aM:=hr.mono (j:=n) (by lia);refine⟨_,fw (kq (K:=K) rfl (qv 0) (gk GB be cB (jf (qp (mh (qv 1)) (fun _ _ _ _=>ni) (fun _ _ _ _=>(gh (vc (K:=K) rfl) (j8 (xv (K:=K) rfl) (qv 0) jn (j7 fu)) (je (gw (gk GO aM cO (gj (gz K (qv 0) fu) ad)) ad))))) ad)))
  (fw (kq (K:=K) rfl (qv 0) (i8 (gw (vr U.mkC GI hr rfl U.mgC bI .nil im (gj (ml aO (i4 (K:=K) rfl (qv 0)) (qv 2) (fun _ _=>rfl)) (fy (qv 3) (fy (qv 4) (i9 ad))))) ad)))
  (fw (kq (K:=K) rfl (qv 0) (i6 m5 rfl C.dict BG (fy (qv 5) ad)))
  (fw (kq (K:=K) rfl (qv 0) (acx (K:=K) rfl rfl rfl C.max (i6 (sy rfl) rfl C.list Bh (fy (qv 5) ad)) fu))
  (fz (kq (K:=K) rfl (qv 0) ny))))),?_⟩
 have a7:=AB hp;refine⟨_,rfl,l,rfl,⟨_,SqL.of (eG _ _ hl)⟩,?_⟩;have gR:∀{D:Addr} {H2:Hp},H D=none->Same H H2->Same G (rm (fun c=>c=D\/(G c=none/\H c≠none)) H2):=fun {D H2} hD e b o z=>by
  rw[iz (fun y=>y.elim (g6 (eG _ _ z) hD) (fun w=>by rw[w.1] at z;cases z))];exact e _ _ (eG _ _ z)
 refine pf (ts.map V.ref) pcs (fun D G' y pc=>∃b,y=V.ref b/\PrcAt K (rm (fun c=>c=D\/(G c=none/\H c≠none)) G') bs b pc) id pk (SqL.of (eG _ _ hl)) (by rw[Ad];lia) (by rw[Ad];exact a7.symm) (fun D G1 G2 y x z e=>?_) (fun D hD i x r hx aN H2 e2 ac Q' q'=>?_) (fun D H2 ys hD e2 ac hpt=>?_)
 . obtain⟨b,rfl,hb⟩:=z;exact⟨b,rfl,hb.same (a1u e (.inl rfl))⟩
 . rw[Am] at hx;obtain⟨t,ht,rfl⟩:=Bb.mp hx;obtain⟨r',aL,S,t1,t2,f1,p1,f2,p2,bd,px⟩:=Paired.nth hp ht;rw[aN] at aL;cases aL;have eH:=eG.trans e2;refine⟨_,rfl,_,rfl,t,_,rfl,SqT.of (eH _ _ px.tup),fun u1 H3 e3 hu=>?_⟩;have aS:=eH.trans e3;refine⟨_,rfl,t,_,5,_,rfl,rfl,SqT.of (aS _ _ px.tup),rfl,.mk (fun c=>c=D\/(G c=none/\H c≠none)) bd r.body rfl (fun c z y=>?_) (px.body.same (gR hD (e2.trans e3))) fun l' H4 e4 h4=>?_⟩
   . rcases z with rfl|z
     . exact ac (e3.free y)
     . exact z.2 ((e2.trans e3).free y)
   refine⟨(show 1<=sizeLine by decide),fun u2 aZ=>?_⟩;obtain⟨H5,z0,s5,k5⟩:=gr aZ (.tup [V.ref l']);rw[z0];refine⟨u1,u2,_,_,rfl,rfl,(e4.trans s5).seqT hu,SqT.of k5,Jp _ _,Jp _ _,ia (show 5+1<=1000 by decide),fun u3 ar=>?_⟩;have e6:=gc ar (.tup (cutV [V.str r.name,V.ref S,V.str r.res,V.ref t1,V.ref t2,V.ref bd] none (some 5)++[V.ref l']));have h6:(upd H5 u3 (.tup (cutV [V.str r.name,V.ref S,V.str r.res,V.ref t1,V.ref t2,V.ref bd] none (some 5)++[V.ref l']))) u3=some (.tup [V.str r.name,V.ref S,V.str r.res,V.ref t1,V.ref t2,V.ref l']):=ft;have av:Same H2 H5:=(e3.trans e4).trans s5;have nu:¬ (u3=D\/(G u3=none/\H u3≠none)):=by
    rintro (rfl|z)
    . exact ac (av.free ar)
    . exact z.2 ((e2.trans av).free ar)
   generalize upd H5 u3 (.tup (cutV [V.str r.name,V.ref S,V.str r.res,V.ref t1,V.ref t2,V.ref bd] none (some 5)++[V.ref l']))=H6 at e6 h6 |-;have aI:Same H2 H6:=av.trans e6;have gg:=gR hD (e2.trans aI);refine q' (.ref u3) H6 aI ⟨u3,rfl,S,t1,t2,f1,p1,f2,p2,l',?_,gg _ _ px.pt,gg _ _ px.t1,gg _ _ px.t2,px.f1.same gg,px.p1.same gg,px.f2.same gg,px.p2.same gg,h4.same (jp (s5.trans e6)),px.okn,px.okr,px.okp,px.ok1,px.ok2,px.l1,px.l2⟩;rw[iz nu];exact h6
 rw[Do] at hpt;obtain⟨us,rfl,W⟩:=mt (R:=fun b pc=>PrcAt K (rm (fun c=>c=D\/(G c=none/\H c≠none)) H2) bs b pc) hpt;have bf:=AB W;have az:Paired (fun t n=>∃vs,H2 t=some (.tup (.str n::vs))) us (pcs.map (·.name)):=by
  have:∀{us:List Addr} {pcs:List Prc},Paired (PrcAt K (rm (fun c=>c=D\/(G c=none/\H c≠none)) H2) bs) us pcs->Paired (fun t n=>∃vs,H2 t=some (.tup (.str n::vs))) us (pcs.map (·.name)):=fun {us pcs} h=>by
   induction h with
   | nil=>exact .nil
   | cons h1 _ ih=>obtain⟨_,_,_,_,_,_,_,_,px⟩:=h1;exact .cons ⟨_,ko _ _ px.tup⟩ ih
  exact this W
 refine .mk D us (pcs.map (·.name)) rfl ac az aD (by lia) fun d H3 e3 aA hpd=>?_;refine⟨_,rfl,m,s,dx,[],rfl,(e2.trans e3) _ _ au,T.cl,T.nP,(by decide),?_⟩;have a3:=(e2.trans e3) _ _ au;have mW:G m=none/\H m≠none:=⟨hm,fun z=>by rw[au] at z;cases z⟩
 have g1:Same G (rm (fun c=>G c=none/\H c≠none) H3):=fun b o z=>by rw[iz (X:=fun c=>G c=none/\H c≠none) (fun w=>by rw[w.1] at z;cases z)];exact (e2.trans e3) _ _ (eG _ _ z)
 have aT:¬ (G d=none/\H d≠none):=fun z=>z.2 (e2.free aA);have ah:rm (fun c=>G c=none/\H c≠none) H3 d=some (.dK ((byK (pcs.map (·.name)) us).map kk)):=by rw[iz (X:=fun c=>G c=none/\H c≠none) aT];exact hpd
 have ae:Paired (PrcAt K (rm (fun c=>G c=none/\H c≠none) H3) bs) us pcs:=Paired.mapP W fun _ _ z=>z.same fun b o y=>by
  obtain⟨y1,y2⟩:=mo y;rw[iz (X:=fun c=>G c=none/\H c≠none) (fun z=>y1 (.inr z))];exact e3 _ _ y2
 have aj:∀b,G b=none->H b≠none->(rm (fun c=>G c=none/\H c≠none) H3) b=none:=fun b z1 z2=>by unfold rm;rw[if_pos ⟨z1,z2⟩]
 have v:Same (rm (fun c=>G c=none/\H c≠none) H3) (upd H3 m (.ins s dx (mf1 d))):=fun b o z=>by
  obtain⟨y1,y2⟩:=mo z;rw[fq (fun z=>y1 (by rw[z];exact mW))];exact y2
 have aq:rm (fun c=>G c=none/\H c≠none) H3 m=none:=aj m mW.1 mW.2;have ab:(upd H3 m (.ins s dx (mf1 d))) m=some (.ins s dx (mf1 d)):=ft;have x4:jq m H (upd H3 m (.ins s dx (mf1 d))):=fun b o z nb=>by rw[fq nb];exact (e2.trans e3) _ _ z
 change tSeq _ _ _ _ (upd H3 m (.ins s dx (mf1 d)));generalize rm (fun c=>G c=none/\H c≠none) H3=G1 at g1 ah ae v aq aj;generalize upd H3 m (.ins s dx (mf1 d))=H4 at v ab x4 |-;clear hpt W az ac hpd a3 e2 e3;have aU:j<us.length:=by rw[bf];exact (Aw.mp hj).1
 have hpr:us[j]? = some us[j]:=Ag aU;generalize us[j]=pr at hpr;obtain⟨bl,ao,ay⟩:=Paired.nth ae hpr;rw[hj] at ao;cases ao;have aP:(pcs.map (·.name))[j]? = some x:=by rw[Am,hj];show some pc.name=_;rw[hx]
 have hg:=DGet.k (k:=Sum.inr x) (v _ _ ah);rw[a1i aD aP hpr] at hg;have a1:(mf1 d).lookup ("procedures" : Str)=some (.ref d):=by unfold mf1;rw[gf,if_pos rfl]
 obtain⟨S,t1,t2,f1,p1,f2,p2,bd,px⟩:=id ay;obtain⟨eo,aH⟩:=a8 G1 bd px.body;have ax:=g1.trans v;refine⟨_,rfl,m,s,dx,_,_,rfl,ab,T.cl,T.nP,a1,_,rfl,d,.ref pr,rfl,hg,_,rfl,_,rfl,fun p aa Y ba bh=>?_⟩;have s5:Same H4 (upd (upd H4 aa (.own p)) p (.ins CF aa [])):=fun b o z=>by rw[fq (g6 z Y),fq (g6 z ba)];exact z
 refine .mk H4 p aa pr q0 nm bd "" pc xs _ _ _ _ _ kvs pp k due eo rfl s5 Y ft (ay.same v) hok (v _ _ px.tup) (ax.seqT hq) (aH.same v) W (ax _ _ aV) fun q1 L fs zs H5 e5 bb bc hfl hq1 aJ hnd a4 bk aW=>⟨rfl,?_⟩
 have Z:m≠p:=fun z=>by rw[<- z,ab] at Y;cases Y
 have N:H4 L=none:=s5.free aJ;refine⟨(show 1<=sizeLine by decide),fun u ai=>?_⟩;obtain⟨H6,z3,s6,k6⟩:=gr ai (.lst [V.ref p]);dsimp only;rw[z3];obtain⟨l1,l2,_⟩:=sq d u u 0;have ap:=(e5.trans s6) _ _ ab;refine⟨_,rfl,m,s,dx,_,rfl,ap,T.cl,T.nF,(by lia),?_⟩;have aG:(upd H6 m (.ins s dx (mf2 d u))) m=some (.ins s dx (mf2 d u)):=ft;have up:∀{H':Hp} {fs':List (Str×V)} {b:Addr} {o:HO},b≠m->H' b=some o->(upd H' m (.ins s dx fs')) b=some o:=fun hb z=>by rw[fq hb];exact z
 have al:∀{H':Hp} {aK fs':List (Str×V)} {a:Addr} {ys:List V},H' m=some (.ins s dx aK)->SqT K H' a ys->SqT K (upd H' m (.ins s dx fs')) a ys:=fun {H' aK fs' a ys} aB h=>by
  rcases h with (h|⟨o,h⟩)|h
  . exact .inl (.inl (by rw[fq (fun z=>by rw[z,aB] at h;cases h)];exact h))
  . exact .inl (.inr ⟨o,by rw[fq (fun z=>by rw[z,aB] at h;cases h)];exact h⟩)
  . exact .inr h
 have am:∀{H':Hp} {fs':List (Str×V)},Same G1 H'->Same G1 (upd H' m (.ins s dx fs')):=fun {H' fs'} e b o z=>up (g6 z aq) (e _ _ z);have g7:Same G1 (upd H6 m (.ins s dx (mf2 d u))):=am ((v.trans e5).trans s6);have ak:u≠m:=fun z=>by rw[z,ap] at k6;cases k6
 have k7:(upd H6 m (.ins s dx (mf2 d u))) u=some (.lst [V.ref p]):=up ak k6;have p7:(upd H6 m (.ins s dx (mf2 d u))) p=some (.ins CF aa fs):=up (AL Z) (s6 _ _ bb);have af:L≠m:=fun z=>by rw[z,ab] at N;cases N
 have n7:(upd H6 m (.ins s dx (mf2 d u))) L=some (.dK ((lj kvs zs).map kk)):=up af (s6 _ _ hnd);have q7:SqT K (upd H6 m (.ins s dx (mf2 d u))) q1 ((flat due.1++[(due.2:Int)]).map V.int):=al ap (s6.seqT hq1);change tSeq _ _ _ _ (upd H6 m (.ins s dx (mf2 d u)));have bg:G1 u=none:=(v.trans e5).free ai;have a0:G1 p=none:=v.free Y;have a5:G1 L=none:=v.free N;have x7:jq m H (upd H6 m (.ins s dx (mf2 d u))):=fun b o z nb=>by rw[fq nb];exact (e5.trans s6) _ _ (x4 b o z nb)
 generalize upd H6 m (.ins s dx (mf2 d u))=H7 at aG g7 k7 p7 n7 q7 x7 |-;refine⟨_,rfl,hd,I,rfl,(g1.trans g7) _ _ aC,fun cd O=>?_⟩;obtain⟨H8,z4,s8,k8⟩:=gr O (.dK I);rw[z4];have aw:=s8 _ _ aG;have an:cd≠m:=fun z=>by rw[z,aw] at k8;cases k8
 have a2:G1 cd=none:=g7.free O;have aX:L≠cd:=g6 n7 O;obtain⟨_,_,l3,l4,l5⟩:=sq d u cd 0;refine⟨_,rfl,m,s,dx,_,rfl,aw,T.cl,T.nC,(by lia),?_⟩;have aF:(upd H8 m (.ins s dx (mf3 d u cd))) m=some (.ins s dx (mf3 d u cd)):=ft;have g9:Same G1 (upd H8 m (.ins s dx (mf3 d u cd))):=am (g7.trans s8);have k9:(upd H8 m (.ins s dx (mf3 d u cd))) u=some (.lst [V.ref p]):=up ak (s8 _ _ k7);have p9:(upd H8 m (.ins s dx (mf3 d u cd))) p=some (.ins CF aa fs):=up (AL Z) (s8 _ _ p7);have n9:(upd H8 m (.ins s dx (mf3 d u cd))) L=some (.dK ((lj kvs zs).map kk)):=up af (s8 _ _ n7);have c9:(upd H8 m (.ins s dx (mf3 d u cd))) cd=some (.dK I):=up an k8;have q9:SqT K (upd H8 m (.ins s dx (mf3 d u cd))) q1 ((flat due.1++[(due.2:Int)]).map V.int):=al aw (s8.seqT q7);change tSeq _ _ _ _ (upd H8 m (.ins s dx (mf3 d u cd)));have x9:jq m H (upd H8 m (.ins s dx (mf3 d u cd))):=fun b o z nb=>by rw[fq nb];exact s8 _ _ (x7 b o z nb)
 generalize upd H8 m (.ins s dx (mf3 d u cd))=H9 at aF g9 k9 p9 n9 c9 q9 x9 |-;refine⟨_,rfl,hd,I,rfl,(g1.trans g9) _ _ aC,fun ll a6=>?_⟩;have aQ:I.map (fun kv=>kV kv.1)=ns.map V.int:=by
  have:I.map (fun kv=>kV kv.1)=(I.map (·.1)).map kV:=by rw[Bd];rfl
  rw[this,aR,Bd];rfl
 rw[aQ];obtain⟨a9,z5,J,aE⟩:=gr a6 (.lst (ns.map V.int));rw[z5];have ag:=J _ _ aF;have fin:∀g:Int,(ns=[]->g=0)->(ns≠[]->g∈ns/\∀n∈ns,n<=g)->Q .non (upd (upd a9 m (.ins s dx (mf4 d u cd g))) m (.ins s dx (mf5 d u cd g))):=fun g h1 h2=>by
  obtain⟨_,_,_,_,l6⟩:=sq d u cd g;refine q G1 d u p aa q1 L cd pr bd us (mf5 d u cd g) fs zs g _ ?_ aj (fun b o z nb=>by rw[fq nb,fq nb];exact J _ _ (x9 b o z nb)) fun b w=>?_
  . exact⟨g1,am (am (g9.trans J)),aq,a0,a5,a2,bg,aX,Z,ae,hpr,ah,⟨_,_,_,_,_,px.tup⟩,px.body,ft,aet d u cd g,l6,up ak (up ak (J _ _ k9)),up (AL Z) (up (AL Z) (J _ _ p9)),bc,hfl,al ft (al ag (J.seqT q9)),up af (up af (J _ _ n9)),a4,aW,up an (up an (J _ _ c9)),h1,h2⟩
  . have fx:∀{H':Hp} {b:Addr},jq m H H'->H' b=none->b≠m->H b=none:=fun {H' b} e z nb=>by
     cases h:H b with
     | none=>rfl
     | some o=>rw[e b o h nb] at z;cases z
    rcases w with rfl|rfl|rfl|rfl
    . exact fx x7 O an
    . exact fx x4 (e5.free ai) ak
    . exact fx x4 Y (AL Z)
    . exact fx x4 N af
 refine⟨ll,ns,0,rfl,rfl,SqL.of aE,fun h0=>?_,fun M hM aY=>?_⟩
 . obtain⟨_,_,_,l6,_⟩:=sq d u cd 0;exact⟨_,rfl,m,s,dx,_,rfl,ag,T.cl,T.nG,(by lia),_,rfl,m,s,dx,_,rfl,ft,T.cl,T.nL,AN l6 (by decide),fin 0 (fun _=>rfl) (fun z=>absurd h0 z)⟩
 . obtain⟨_,_,_,l6,_⟩:=sq d u cd M;exact⟨_,rfl,m,s,dx,_,rfl,ag,T.cl,T.nG,(by lia),_,rfl,m,s,dx,_,rfl,ft,T.cl,T.nL,AN l6 (by decide),fin M (fun z=>by rw[z] at hM;cases hM) (fun _=>⟨hM,aY⟩)⟩
theorem tw(h:i5 x=true):Short x:=by
 unfold i5 at h;split at h
 . cases h
 . rename_i hn;have:¬ 8<x.length:=fun z=>hn (.inr (.inl z));show x.length<=1000
   lia
theorem a3c:∀{zs:List Str},(∀z∈zs,z∈ys)->(lj (vK ys f) zs).map kk=vK zs f
 | [],_=>rfl
 | z::zs,h=>by
  have a:=a3c (f:=f) fun y b=>h y (Al _ b);unfold lj vK at a |-;rw[Ar,Ar,Ar,a];have e:=wr (f:=f) (h z (Af ..));unfold vK at e;rw[e];rfl
theorem le:∀y∈([("set" : Str),"read","write","new","free","first","second","nil","","is","not"]:List Str),y.length<=1000:=by decide +kernel
theorem no_nil:i5 ("nil" : Str)=false/\i5 ("" : Str)=false:=by decide +kernel
theorem tok0(xs:List Str):TOk xs [] []:=⟨⟨AH _,fun _ h=>(by cases h)⟩,⟨AH _,fun _ h=>(by cases h)⟩,fun _ h=>(by cases h),fun _ h=>(by cases h)⟩
theorem adq(h:DG ⟨xs,hs⟩ d)(i:y∈wrd d):y∈xs++[("nil" : Str)]\/y = "" := by
 have l:∀{x:Str},x∈xs->x∈xs++[("nil" : Str)]:=fun h=>AD _ h;cases d with
 | plain q =>
  cases q with
  | row r =>
   obtain⟨e,rfl,j⟩:=h;rw[ux] at i;left;cases e<;>simp only[o0,Ah,Ay,or_false] at i
   . rcases i with rfl|rfl
     . exact l j.1
     . exact j.2
   . rcases i with rfl|rfl
     . exact l j.1
     . exact l j.2.1
   . rcases i with rfl|rfl
     . exact l j.1
     . exact j.2.2
   . rcases i with rfl|rfl|rfl
     . exact l j.1
     . exact j.2.1
     . exact j.2.2
   . rw[i];exact l j
  | call x c vs =>
   obtain⟨n,m,_⟩:=h;rcases Ah.mp (show y∈x::vs from i) with rfl|z
   . exact n.elim .inr fun w=>.inl (l w)
   . exact .inl (m y z)
 | cond r a b =>
  obtain⟨f,x,z,rfl,_,k,hz⟩:=h;have g:y∈[x,z]:=i;simp only[Ah,Ay,or_false] at g;rcases g with rfl|rfl
  . exact .inl (l k)
  . exact .inl hz
 | loop r F P a =>
  obtain⟨⟨f,x,z,rfl,_,k,hz⟩,rfl,rfl⟩:=h;have g:y∈[x,z]:=i;simp only[Ah,Ay,or_false] at g;rcases g with rfl|rfl
  . exact .inl (l k)
  . exact .inl hz
theorem ae6(hn:∀x∈xs,i5 x=true)(v:∀h∈hs,h.2.1<=8)(h:DG ⟨xs,hs⟩ d):DOk xs d:=by
 have j:∀{x:Str},x∈xs->Short x:=fun l=>tw (hn _ l);have k:∀{x:Str},x∈xs++[("nil" : Str)]->Short x:=fun l=>(Ap.mp l).elim j fun z=>by rw[Ao.mp z];exact le _ (by simp)
 have m:∀{r:List Str},lp ⟨xs,hs⟩ r->ROk r:=fun h=>by
  obtain⟨f,x,y,rfl,u,l,n⟩:=h;refine⟨rfl,fun z hz=>?_⟩;simp only[Ah,Ay,or_false] at hz;rcases hz with rfl|rfl|rfl
  . rcases u with rfl|rfl
    . exact le _ (by simp)
    . exact le _ (by simp)
  . exact j l
  . exact k n
 have p:∀{f:Str},yw f->Short f:=fun h=>by
  rcases h with rfl|rfl<;>exact le _ (by simp)
 cases d with
 | plain q =>
  cases q with
  | row r =>
   obtain⟨e,rfl,i⟩:=h;intro z hz;cases e<;>simp only[rowD,Ah,Ay,or_false] at hz
   . rcases hz with rfl|rfl|rfl
     . exact le _ (by simp)
     . exact j i.1
     . exact k i.2
   . rcases hz with rfl|rfl|rfl|rfl
     . exact le _ (by simp)
     . exact j i.1
     . exact j i.2.1
     . exact p i.2.2
   . rcases hz with rfl|rfl|rfl|rfl
     . exact le _ (by simp)
     . exact j i.1
     . exact p i.2.1
     . exact k i.2.2
   . rcases hz with rfl|rfl|rfl|rfl
     . exact le _ (by simp)
     . exact j i.1
     . exact k i.2.1
     . exact k i.2.2
   . rcases hz with rfl|rfl
     . exact le _ (by simp)
     . exact j i
  | call x c vs =>
   obtain⟨o,t,g,s,_⟩:=h;exact⟨o.elim (fun z=>by rw[z];exact le _ (by simp)) j,v _ s,fun y n=>k (t y n)⟩
 | cond r a b=>exact m h
 | loop r F P a=>obtain⟨o,rfl,rfl⟩:=h;exact⟨m o,tok0 xs⟩
theorem a1o(h:PcOk xs hs p):allW (B 5) p=qd p:=by
 obtain⟨c,a,d,b⟩:=h.tl;unfold allW qd;rw[c,a,d,b];show p.ps++[p.res]++[]++[]++_=_;rw[Da,Da]
theorem a4i(h:PcOk xs hs p)(a:y∈qd p):y∈xs++[("nil" : Str)]\/y = "" := by
 unfold qd at a;rcases Ap.mp a with z|z
 . rcases Ap.mp z with w|w
   . exact .inl (AD _ (h.px y w))
   . rw[Ao.mp w];exact h.res.elim .inr fun z=>.inl (AD _ z)
 . obtain⟨d,hd,b⟩:=Bt.mp z;exact adq (h.bd.ok _ d hd) b
theorem a76(h:PcOk xs hs p)(f:xs.length=6)(hn:∀x∈xs,i5 x=true)(e:∀h∈hs,h.2.1<=8):PrcOk (B 5) xs p:=by
 obtain⟨t1,t2,c,b⟩:=h.tl;refine⟨⟨by have:=h.pl;lia,fun y a=>tw (hn _ (h.px y a))⟩,h.res.elim (fun z=>by rw[z];exact le _ (by simp)) (fun z=>tw (hn _ z)),by rw[t1,t2];exact tok0 xs,by rw[c,b];exact tok0 xs,fun d hd=>ae6 hn e (h.bd.ok _ d hd),Ax (h.bd.len _) (by decide),by lia,fun y a hi=>?_⟩;rw[a1o h] at a;rcases a4i h a with z|z
 . rcases Ap.mp z with w|w
   . exact w
   . rw[Ao.mp w,no_nil.1] at hi;cases hi
 . rw[z,no_nil.2] at hi;cases hi
theorem PcsOk.heads(h:PcsOk xs pcs):∀g∈pcs.map qo,g.2.1<=8:=fun g a=>by
 obtain⟨p,hp,rfl⟩:=Az.mp a;exact Ax (h.ok p hp).pl (by decide)
theorem aep(hn:(pcs.map (·.name)).Nodup)(hp:p∈pcs):pcs[idxP pcs p.name]? = some p:=by
 unfold idxP;induction pcs with
 | nil=>cases hp
 | cons q pcs ih =>
  rw[Ar,AU] at hn;rw[List.findIdx_cons];rcases Ah.mp hp with rfl|z
  . rw[decide_eq_true rfl];rfl
  . have ne:¬ q.name=p.name:=fun e=>hn.1 (by rw[e];exact Br (f:=fun c:Prc=>c.name) z);rw[decide_eq_false ne];exact ih hn.2 z
theorem aao(hn:∀x∈xs,i5 x=true)(hp:PcsOk xs pcs)(h:DG ⟨xs,pcs.map qo⟩ d):abo pcs d:=by
 have wd:∀{y:Str},y∈xs++[("nil" : Str)]->Wd y:=fun h=>(Ap.mp h).imp (hn _) Ao.mp;have cd:∀{r:List Str},lp ⟨xs,pcs.map qo⟩ r->a5g r:=fun⟨f,x,y,l,_,k,m⟩=>⟨f,x,y,l,.inl (hn _ k),wd m⟩
 cases d with
 | plain q =>
  cases q with
  | row r =>
   obtain⟨e,rfl,i⟩:=h;cases e with
   | set x y=>exact .set x y (hn _ i.1) (wd i.2)
   | read x y f=>exact .read x y f (hn _ i.1) (hn _ i.2.1) i.2.2
   | write y f z=>exact .write y f z (hn _ i.1) i.2.1 (wd i.2.2)
   | new x y z=>exact .new x y z (hn _ i.1) (wd i.2.1) (wd i.2.2)
   | free y=>exact .free y (hn _ i)
  | call x c vs =>
   obtain⟨l,u,g,k,m,A,C⟩:=h;obtain⟨p,j,e⟩:=Az.mp k;obtain⟨n,s⟩:=JS e;obtain⟨v,o⟩:=JS s;refine⟨l.imp id (hn _),fun w t=>wd (u w t),p,by rw[<- n];exact aep hp.nn j,n,v.symm,?_⟩;rcases m with z|z
   . rw[z] at o;exact .inr ((hp.ok p j).res.elim (fun w=>absurd w (of_decide_eq_true o)) (hn _))
   . exact .inl z
 | cond r a b=>exact cd h
 | loop r F P a=>exact cd h.1
theorem ab3(hn:∀x∈xs,i5 x=true)(c:xs.length=6)(hp:PcsOk xs pcs)(hpd:X b=some (.dK ((byK (pcs.map (·.name)) a).map kk)))(hps:Paired (PrcAt K X (B 5)) a pcs):Pg K X pcs b a xs :=
 ⟨hpd,hps,hp.nn,fun pc h=>⟨a76 (hp.ok pc h) c hn hp.heads,(hp.ok pc h).pn,fun d hd=>aao hn hp ((hp.ok pc h).bd.ok _ d hd)⟩⟩
theorem a6m(N:MNew K s r (B 5) G H m dx pcs pc j (vK zs F) c due ns t o i p f u nd cd pr bd q h fs ys g)(l:Same t X)(sX:Same X H)(out:∀b,b=m\/b=cd\/b=i\/b=p\/b=nd->X b=none)(k:pcs[j]? = some pc)(hc:Paired (CellAt K H) c cs)(hz:∀y∈ys,y∈zs)(hl:zs.length<=6)(d:AtP pc.body due.1 due.2):
 MAt K s r X pcs m dx o i cd H h ⟨[⟨j,due.1,due.2,F,""⟩],cs,g,false⟩ [⟨p,f,pr,u,nd,bd,fs,ys,pc,⟨j,due.1,due.2,F,""⟩⟩]:=by
 obtain⟨pt,t1,t2,f1,p1,f2,p2,e,px⟩:=Paired.at2 N.hps N.hpr k;obtain⟨A,x,v,w,z,hb⟩:=N.hbd;have hnd:=N.hnd;rw[a3c hz] at hnd;have n:e=bd:=by
  have:=px.tup;rw[hb] at this;injection this with this;injection this with this;injection this with _ this;injection this with _ this;injection this with _ this;injection this with _ this;injection this with _ this;injection this with this _;injection this with this;exact this.symm
 subst n;refine⟨⟨sX,out _ (by simp),N.hfl,fun a ha=>?_,by simp,by simp⟩,rfl,trivial,out _ (by simp),out _ (by simp),N.hm,N.mf,N.lm,⟨c,N.hcd,hc⟩,by simpa using N.mp,by simpa using AL N.nc,by simp⟩;rw[Ao.mp ha];exact⟨out _ (by simp),out _ (by simp),N.hp,N.ff,N.lf,N.hq1,hnd,⟨_,_,_,l _ _ px.tup⟩,N.body.same l,d,Ax (AW N.zn hz) (by lia),N.zm,N.zn,k⟩
theorem MAt.out{frs:List Fr}(A:MAt K k n X pcs m i g e cd H j s frs)(h:b∈muM m cd e frs):X b=none/\∃o,H b=some o/\((∃C d f,o=.ins C d f)\/(∃kvs,o=.dK kvs)\/∃l,o=.lst l):=by
 rcases mem_mu.mp h with rfl|rfl|rfl|z|z
 . exact⟨A.xm,_,A.hm,.inl ⟨_,_,_,rfl⟩⟩
 . obtain⟨kvs,c,_⟩:=A.C;exact⟨A.xc,_,c,.inr (.inl ⟨_,rfl⟩)⟩
 . exact⟨A.S.xf,_,A.S.hfl,.inr (.inr ⟨_,rfl⟩)⟩
 . obtain⟨a,ha,rfl⟩:=Az.mp z;exact⟨(A.S.fr a ha).xp,_,(A.S.fr a ha).hp,.inl ⟨_,_,_,rfl⟩⟩
 . obtain⟨a,ha,rfl⟩:=Az.mp z;exact⟨(A.S.fr a ha).xn,_,(A.S.fr a ha).hnd,.inr (.inl ⟨_,rfl⟩)⟩
theorem MAt.other{frs:List Fr}(A:MAt K j i X pcs m x v g cd H y s frs)(t:MAt K j i X pcs m2 dm2 pd2 fl2 cd2 H c r a)(q:∀b∈muM m cd g frs,b∉muM m2 cd2 fl2 a)(sX:Same X H')(kp:KpM (muM m cd g frs) H H'):MAt K j i X pcs m2 dm2 pd2 fl2 cd2 H' c r a:=by
 refine t.keep sX fun b o h w=>kp b o h fun z=>?_;rcases w with w|⟨n,u,p⟩
 . exact q b z w
 . obtain⟨_,D,h',k⟩:=A.out z;rw[h] at h';rw[<- A0 h'] at k;rcases k with⟨C,d,f,e⟩|⟨k,e⟩|⟨l,e⟩
   . exact n _ _ _ e
   . exact u _ e
   . exact p _ e
theorem q3(pcs:List Prc):∀(n:Nat) (l:List PF),(j4 pcs n l).length<=l.length
 | 0,l=>by unfold j4;exact Ak _
 | n+1,[]=>by unfold j4;exact Ak _
 | n+1,[a]=>by unfold j4;exact Ak _
 | n+1,a::b::r=>by
  unfold j4;split
  . have:=q3 pcs n (uj pcs a b::r);simp only[AC] at this |-
    lia
  . exact Ak _
theorem a6e(r:List Str)(F:Str->Int)(cs:List Cl)(g:Int):(iw r F cs g).2.1.length<=cs.length+1:=by
 unfold iw;split
 . exact Bs _
 split
 . exact Bs _
 split
 . exact yd
 split
 . exact yd
 . exact Ax (BM _ _) (Bs _)
theorem a2n(pcs:List Prc)(s:PM):(ju pcs s).frs.length<=s.frs.length+1/\(ju pcs s).cs.length<=s.cs.length+1:=by
 unfold ju;split
 . exact⟨Bs _,Bs _⟩
 split
 . exact⟨Bs _,Bs _⟩
 rename_i f r hs;split
 . exact⟨Bs _,Bs _⟩
 rename_i d _;split
 . exact⟨Bs _,Bs _⟩
 rw[hs];cases d with
 | plain q =>
  cases q with
  | row w=>exact⟨Ax (q3 pcs _ _) (by simp only[AC];lia),a6e _ _ _ _⟩
  | call x c ws=>exact⟨Ax (q3 pcs _ _) (by simp only[AC];lia),Bs _⟩
 | cond=>exact⟨Ax (q3 pcs _ _) (by simp only[AC];lia),Bs _⟩
 | loop=>exact⟨Ax (q3 pcs _ _) (by simp only[AC];lia),Bs _⟩
theorem ud:∀(a kvs:List (Key×V)),((kvs++a).map (·.1)).Nodup->nq kvs a=kvs++a
 | [],kvs,_=>(Da _).symm
 | p::r,kvs,h=>by
  have hn:valV kvs p.1=none:=by
   cases hz:valV kvs p.1 with
   | none=>rfl
   | some v =>
    have hm:=a3e hz;rw[Au,Cq] at h;exact absurd rfl (h.2.2 _ hm _ (Az.mpr ⟨p,Af ..,rfl⟩))
  show nq (putK kvs p.1 p.2) r=_;rw[a1l _ hn,ud r (kvs++[(p.1,p.2)]) (by rw[Cb];exact h),Cb];rfl
section
theorem q8(h:Paired (CellAt K H) kvs cs):kvs.map (·.1)=(cs.map (·.1)).map Sum.inl:=by
 induction h with
 | nil=>rfl
 | cons h1 _ ih=>rw[Ar,Ar,Ar,ih,h1.1]
theorem zi{cs:List Cl}(h:(cs.map (·.1)).Nodup):((cs.map (·.1)).map (Sum.inl:Int->Key)).Nodup:=by
 generalize cs.map (·.1)=l at h;induction l with
 | nil=>exact E8
 | cons x l ih =>
  rw[AU] at h;rw[Ar,AU];refine⟨fun z=>?_,ih h.2⟩;obtain⟨y,a,e⟩:=Az.mp z;rw[Ed e] at a;exact h.1 a
theorem aa2(d:Paired (CellAt K H) kvs cs)(g:Paired (CellAt K H) a ds)(hp:cs.Perm ds)(hn:(ds.map (·.1)).Nodup):kvs.length=a.length/\∀k v,valV kvs k=some v->∃f,valV a k=some f/\AlV K H v f:=by
 refine⟨by rw[AB d,AB g];exact hp.length_eq,fun k v b=>?_⟩;have hm:=a3e b;rw[q8 d] at hm;obtain⟨i,_,rfl⟩:=Az.mp hm;cases e:getC cs i with
 | none=>rw[(lg i d).2 e] at b;cases b
 | some c =>
  obtain⟨r,g1,m⟩:=(lg i d).1 c e;rw[g1] at b;cases b;obtain⟨o,h,l⟩:=(lg i g).1 c (zu hn (hp.mem_iff.mp (rl e)));have n:SqT K H r ([c.1,c.2].map V.int):=m;have j:SqT K H o ([c.1,c.2].map V.int):=l;exact⟨_,h,.inr ⟨a4z [c.1,c.2],a36 n,a36 j,ints_dn.ok (by decide)⟩⟩
theorem a3k:∀{xs:List Str},valV (vK xs f) k=some v->∃y∈xs,k=Sum.inr y/\v=.int (f y)
 | [],h=>by cases h
 | x::xs,h=>by
  unfold valV vK at h;rw[Ar,BJ] at h;by_cases e:(Sum.inr x:Key)=k
  . rw[decide_eq_true e] at h;exact⟨x,Af ..,e.symm,(A0 h).symm⟩
  . rw[decide_eq_false e] at h;obtain⟨y,c,b,a⟩:=a3k (f:=f) (xs:=xs) (k:=k) (v:=v) h;exact⟨y,Al _ c,b,a⟩
theorem ada(h:∀y,y∈zs↔y∈ys)(n1:zs.Nodup)(n2:ys.Nodup):(vK zs F).length=(vK ys F).length/\∀k v,valV (vK zs F) k=some v->∃b,valV (vK ys F) k=some b/\AlV K H v b:=by
 refine⟨?_,fun k v c=>?_⟩
 . unfold vK;rw[Ad,Ad];exact Nat.le_antisymm (AW n1 fun y a=>(h y).mp a) (AW n2 fun y a=>(h y).mpr a)
 . obtain⟨x,d,rfl,rfl⟩:=a3k c;exact⟨_,wr ((h x).mp d),.inl ⟨rfl,rfl⟩⟩
variable{K:Ac}{H:Hp} in
theorem a3o:∀ns:List Int,DpAll K H (ns.map V.int) (ns.map PyData.int)
 | []=>.nil
 | n::ns=>.cons (.int n) (a3o ns)
end
theorem a22:∀ns:List Int,CJ (ns.map PyData.int)=true/\Dg (ns.map PyData.int)<=1
 | []=>by simp[CJ,Dg]
 | n::ns=>by
  obtain⟨a,b⟩:=a22 ns;simp[CJ,DU,Dg,Fh,a]
  lia
theorem aa3(b:∀nm pp k,w=some (nm,pp,k)->Ok nm):∃d:PyData,EqOk d/\∀(K:Ac) (H:Hp) (v:V),a3j K H v w->Dp K H v d:=by
 cases w with
 | none=>exact⟨.none,⟨rfl,by simp[Fh]⟩,fun K H v h=>by rw[show v=.non from h];exact .non⟩
 | some w =>
  obtain⟨nm,pp,k⟩:=w;refine⟨.tuple [.str nm,.tuple ((flat pp++[(k:Int)]).map PyData.int)],?_,fun K H v h=>?_⟩
  . obtain⟨a,f⟩:=a22 (flat pp++[(k:Int)]);have okn:(PyData.str nm).canLay0=true:=b nm pp k rfl;refine⟨by simp only[DU] at okn;simp only[DU,CJ,okn,a];rfl,?_⟩;simp only[Fh,Dg]
    lia
  . obtain⟨r,pt,rfl,e,c⟩:=h;exact .tup (SqT.of e) (.cons (.str nm) (.cons (.tup c (a3o _)) .nil))
structure TC where
 m1:Addr
 dm1:Addr
 pd1:Addr
 fl1:Addr
 cd1:Addr
 m2:Addr
 dm2:Addr
 pd2:Addr
 fl2:Addr
 cd2:Addr
inductive Tw(K:Ac)(CM CF:Addr)(X:Hp)(pcs:List Prc)(c:TC)(bes:List Cl)(s1 s2:PM)(n:Nat)(H:Hp):Prop
 | mk (fm1 fm2:List (Str×V))(a1 a2:Fr)(r1 r2:List Fr)(A1:MAt K CM CF X pcs c.m1 c.dm1 c.pd1 c.fl1 c.cd1 H fm1 s1 (a1::r1))(A2:MAt K CM CF X pcs c.m2 c.dm2 c.pd2 c.fl2 c.cd2 H fm2 s2 (a2::r2))(dj:∀b∈muM c.m1 c.cd1 c.fl1 (a1::r1),b∉muM c.m2 c.cd2 c.fl2 (a2::r2))(S:Sim bes s1 s2)(G:Good bes s1)(l1:s1.frs.length<=n+1)(l2:s1.cs.length<=n+6)(l3:s2.cs.length<=n+12)
theorem MAt.cons{K:Ac}{g f:Addr}{X:Hp}{pcs:List Prc}{H:Hp}{m c b e cd:Addr}{d:List (Str×V)}{s:PM}{frs:List Fr}(A:MAt K g f X pcs m c b e cd H d s frs):∃a r,frs=a::r:=by
 cases frs with
 | nil=>exact absurd rfl A.ne
 | cons a r=>exact⟨a,r,rfl⟩
theorem MAt.flen{frs:List Fr}(A:MAt K f e X pcs m b a d cd H c s frs):frs.length=s.frs.length:=by rw[<- A.ef,Ad]
theorem Tw.both(T:Tw K u N X pcs c bes t s n H)(hb:(bes.map (·.1)).Nodup)(P1:Pg K X pcs c.pd1 l xs)(P2:Pg K X pcs c.pd2 m xs)(hn:n<=100)(q:∀p,(∃a,p c.m2=some (.ins u c.dm2 a)/\∀x∈nj,a.lookup x=none)->(∀I E',(∀r,Tw K u N X pcs c bes (ju pcs t) (ju pcs s) (n+1) r->I .non r)->spStep K u N [.ref c.m2] p I E')->Q .non p):spStep K u N [.ref c.m1] H Q E:=by
 obtain⟨y,a,a1,a2,r1,r2,F,U,Z,S,G,l1,l2,l3⟩:=T;obtain⟨S',G'⟩:=S.step (pcs:=pcs) hb G;have f1:=F.flen;have f2:=U.flen;have sf:s.frs.length=t.frs.length:=by rw[S.f]
 obtain⟨k1,k2⟩:=a2n pcs t;obtain⟨k3,k4⟩:=a2n pcs s;refine .mk X c.m1 c.dm1 c.pd1 c.fl1 c.cd1 y pcs t _ l xs rfl F P1 (by lia) (by lia) fun p k d J A P=>?_;have v:=F.other U Z J.S.sX A;have j:∀b∈muM c.m1 c.cd1 c.fl1 d,b∉muM c.m2 c.cd2 c.fl2 (a2::r2):=fun b hb g=>by
  rcases P b hb with z|z
  . exact Z b z g
  . obtain⟨_,o,h,_⟩:=U.out g;rw[z] at h;cases h
 refine q p ⟨a,v.hm,v.mf.meth⟩ fun I E' q'=>?_;refine .mk X c.m2 c.dm2 c.pd2 c.fl2 c.cd2 a pcs s _ m xs rfl v P2 (by lia) (by lia) fun r i e W M R=>?_;have Y:=v.other J (fun b h1 g=>j b g h1) W.S.sX M;have L:∀b∈muM c.m1 c.cd1 c.fl1 d,b∉muM c.m2 c.cd2 c.fl2 e:=fun b hb g=>by
  rcases R b g with z|z
  . exact j b hb z
  . obtain⟨_,o,h,_⟩:=J.out hb;rw[z] at h;cases h
 obtain⟨D,C,rfl⟩:=Y.cons;obtain⟨O,w,rfl⟩:=W.cons;exact q' r ⟨k,i,D,O,C,w,Y,W,L,S',G',by lia,by lia,by lia⟩
theorem Sim.word(S:Sim bes a b):oo pcs b=oo pcs a/\pj pcs b=pj pcs a:=by
 have e:oo pcs b=oo pcs a:=by unfold oo;rw[S.w,S.f]
 exact⟨e,by unfold pj;rw[e,S.f]⟩
theorem MNew.same(N:MNew K k i bs G H m dx pcs pc j kvs b due ns l f h p c n nd cd pr bd a d fs ys g)(e:Same H H'):MNew K k i bs G H' m dx pcs pc j kvs b due ns l f h p c n nd cd pr bd a d fs ys g :=
 ⟨N.g1,N.gH.trans e,N.n1,N.n2,N.n3,N.n4,N.n5,N.nc,N.mp,N.hps,N.hpr,N.hpd,N.hbd,N.body,e _ _ N.hm,N.mf,N.lm,e _ _ N.hfl,e _ _ N.hp,N.ff,N.lf,e.seqT N.hq1,e _ _ N.hnd,N.zn,N.zm,e _ _ N.hcd,N.g0,N.gm⟩
theorem a8s(h:CellsU H hp):∃cs:List Cl,Paired (CellAt K H) (hK hp) cs/\cs.map (·.1)=hp.map (·.1)/\∀c∈cs,∃p∈hp,H p.2=some (.tup [.int c.2.1,.int c.2.2]):=by
 induction hp with
 | nil=>exact⟨[],.nil,rfl,fun _ h=>by cases h⟩
 | cons p hp ih =>
  obtain⟨cs,f,d,b⟩:=ih fun q hq=>h q (Al _ hq);obtain⟨u,v,a⟩:=h p Af;refine⟨(p.1,u,v)::cs,.cons ⟨rfl,p.2,rfl,SqT.of a⟩ f,by rw[Ar,Ar,d],fun c hc=>?_⟩;rcases Ah.mp hc with rfl|z
  . exact⟨p,Af,a⟩
  . obtain⟨q,hq,e⟩:=b c z;exact⟨q,Al _ hq,e⟩
def in0(zs:List Str)(F:Str->Int):Str->Int:=fun y=>if y∈zs then F y else 0
theorem adl(zs:List Str)(F:Str->Int):vK zs F=vK zs (in0 zs F):=by
 unfold vK;refine BE fun y a=>?_;unfold in0;rw[if_pos a]
theorem adc(hb:∀j∈bes.map (·.1),BesG H hp zs F j)(o:cs.map (·.1)=hp.map (·.1))(m:∀c∈cs,∃p∈hp,H p.2=some (.tup [.int c.2.1,.int c.2.2]))(hn:(hp.map (·.1)).Nodup)(gm:hp.map (·.1)≠[]->g∈hp.map (·.1)/\∀n∈hp.map (·.1),n<=g):Good bes ⟨[⟨i,pp,k,in0 zs F,""⟩],cs,g,false⟩:=by
 refine⟨fun f r y z=>?_,fun c hc=>⟨fun z=>?_,fun z=>?_,fun z=>?_⟩,fun b h=>?_,by rw[o];exact hn⟩
 . rw[Ao.mp r] at z;obtain⟨l,_,u,_⟩:=hb _ z;have x:in0 zs F y=in0 zs F y:=rfl;by_cases w:y∈zs
   . exact u y w (by show F y=in0 zs F y;unfold in0;rw[if_pos w])
   . have v:in0 zs F y=0:=by unfold in0;rw[if_neg w]
     have s:1<=in0 zs F y:=l
     lia
 . obtain⟨_,_,_,q,_⟩:=hb _ z;exact q c.1 (by rw[<- o];exact Br (f:=fun c:Cl=>c.1) hc) rfl
 . obtain⟨p,a,e⟩:=m c hc;exact ((hb _ z).2.2.2.2 p a _ _ e).1 rfl
 . obtain⟨p,a,e⟩:=m c hc;exact ((hb _ z).2.2.2.2 p a _ _ e).2 rfl
 . obtain⟨l,⟨k,d,t⟩,_⟩:=hb _ h;refine⟨l,?_⟩;have:=(gm (fun z=>by rw[z] at d;cases d)).2 k d;show b<=g
   lia
theorem a9r{bes:List Cl}(hb:∀j∈bes.map (·.1),BesG H hp zs F j)(h0:hp.map (·.1)=[]->g1=0)(hm:hp.map (·.1)≠[]->g1∈hp.map (·.1)/\∀n∈hp.map (·.1),n<=g1)(k0:hp.map (·.1)++bes.map (·.1)=[]->c=0)(e:hp.map (·.1)++bes.map (·.1)≠[]->c∈hp.map (·.1)++bes.map (·.1)/\∀n∈hp.map (·.1)++bes.map (·.1),n<=c):c=g1:=by
 by_cases z:hp.map (·.1)=[]
 . have g:bes.map (·.1)=[]:=by
    refine List.eq_nil_iff_forall_not_mem.mpr fun j f=>?_;obtain⟨_,⟨k,d,_⟩,_⟩:=hb j f;rw[z] at d;cases d
   rw[h0 z,k0 (by rw[z,g];rfl)]
 . obtain⟨m1,m2⟩:=hm z;obtain⟨n1,n2⟩:=e (fun w=>z (List.append_eq_nil_iff.mp w).1);have a:=n2 g1 (AD _ m1);rcases Ap.mp n1 with w|w
   . have b:=m2 c w
     lia
   . obtain⟨_,⟨k,d,h⟩,_⟩:=hb c w;have b:=m2 k d
     lia
theorem aab(hn:∀x∈xs,i5 x=true)(hok:PcsOk xs pcs):∀nm pp k,pj pcs s=some (nm,pp,k)->Ok nm:=fun nm pp k h=>by
 unfold pj at h;split at h
 . cases h
 split at h
 . cases h
 . rename_i f _ _;have e:=A0 h;have a:((pcs[f.i]?).map (·.name)).getD ("" : Str)=nm:=congrArg Prod.fst e;rw[<- a];cases z:pcs[f.i]? with
   | none=>exact js ("" : Str) (by simp)
   | some p=>exact qh (hn _ (hok.ok p (AE z)).nm)
theorem Tw.one(T:Tw K f p X pcs c bes h m n H):∃d,H c.m1=some (.ins f c.dm1 d)/\∀x∈nj,d.lookup x=none:=by
 obtain⟨a,e,l,k,g,j,b,o,i,S,G,l1,l2,l3⟩:=T;exact⟨a,b.hm,b.mf.meth⟩
abbrev sLaw:Stmt:=top 48
theorem aeg(dY:8<=n)(dq:ls<=n)(C:Con K mg w)(T:TxM K mg CM fI)(U:TxF K mg CF fJ)(F:Fun K "law" "law" sLaw f fd)(GC:FnOk P w K mg base CX0 1 gC dC ["_law_script","_law_k"] (sn K))(cC:Cal K mg "_law_cell_at" gC dC ["_law_script","_law_k"])(GN:FnOk P w K mg base CX0 3 gN dN ["_law_base","_law_place","_law_many"] spNm)(cN:Cal K mg "_law_names" gN dN ["_law_base","_law_place","_law_many"])(GP:FnOk P w K mg base CX0 4 gP dP ["_law_script","_law_start","_law_names_here"] (spProg K))(cP:Cal K mg "_law_program" gP dP ["_law_script","_law_start","_law_names_here"])(GH:FnOk P w K mg base CX0 3 gH dH ["_law_script","_law_start"] (spHeapL K))(cH:Cal K mg "_law_heap" gH dH ["_law_script","_law_start"])(GV:FnOk P w K mg base CX0 3 gV dV ["_law_script","_law_start","_law_told","_law_spots"] (spValues K))(cV:Cal K mg "_law_values" gV dV ["_law_script","_law_start","_law_told","_law_spots"])(GT:FnOk P w K mg base CX0 2 gT dT ["_law_procedure"] (spTold K))(cT:Cal K mg "_law_told_names" gT dT ["_law_procedure"])(GB:FnOk P w K mg base CX0 3 gB dB ["_law_heap_here","_law_values_here","_law_script"] (spBeside K))(cB:Cal K mg "_law_beside" gB dB ["_law_heap_here","_law_values_here","_law_script"])(GI:FnOk P w K mg base CX0 n fI dI ["self","program","name","path","values","heap"] (spMInitX K CM CF (B 5)))(bI:Binds K dI ["self","program","name","path","values","heap"] [])(GS:FnOk P w K mg base CX0 ls gS dS ["self"] (spStep K CM CF))(cS:MCal K CM "step" gS dS ["self"])(GW:FnOk P w K mg base CX0 5 gW dW ["self"] (spWord K CM CF))(cW:MCal K CM "word" gW dW ["self"])(GX:FnOk P w K mg base CX0 6 gX dX ["self"] (spWhere K CM CF))(cX:MCal K CM "where" gX dX ["self"])(GL:FnOk P w K mg base CX0 1 gL dL ["self"] (a75 CM CF))(cL:MCal K CM "held" gL dL ["self"])(GK:FnOk P w K mg base CX0 1 gK dK ["self"] (a7l CM))(cK:MCal K CM "heap" gK dK ["self"]):FnOk P w K mg base CX0 (n+1+1) f fd ["_law_script"] (a11 K):=by
 refine F.okA ["_law_script","_law_names_here","_law_program_here","_law_heap_here","_law_spots","_law_values_here","_law_beside_here","_law_more","_law_one","_law_other","_law_turn","_law_due"] fun dU A outer s0 H vs Q E hr h nd=>?_;have dh:=kx hr;have hu:=AN (Cc (show 32<=64 by decide) _) hr.units;have ab:=hr.mono (j:=1) (by lia);have cM:=hr.mono (j:=2) (by lia);have aK:=hr.mono (j:=3) (by lia);have cR:=hr.mono (j:=4) (by lia);have b9:=hr.mono (j:=5) (by lia);have ct:=hr.mono (j:=6) (by lia);have bT:=hr.mono (j:=ls) (by lia);refine⟨_,fw (gp 1 nd (gk GN aK cN (gw (gk GC ab cC (fy (qv 0) (gs ad))) (gw (gk GC ab cC (fy (qv 0) (gs ad))) (gs ad)))))
  (fw (gp 2 nd (gk GP cR cP (fy (qv 0) (gs (fy (qv 1) ad)))))
  (fw (pi (gk GH aK cH (fy (qv 0) (gs ad))) (adi (jc 3 nd) (jc 4 nd)))
  (fw (gp 5 nd (gk GV aK cV (fy (qv 0) (gs (gw (gk GT cM cT (gj (i0 K (qv 2) fu) ad)) (fy (qv 4) ad))))))
  (fw (gp 6 nd (gk GB aK cB (fy (qv 3) (fy (qv 5) (fy (qv 0) ad)))))
  (fw (gp 7 nd (i6 m5 rfl C.dict BG (fy (qv 3) ad)))
  (fw (ik (a4l (qv 7) (qv 6)))
  (fw (gp 8 nd (vr T.mkC GI hr rfl T.mgC bI .nil im (fy (qv 2) (gj (gz K (i0 K (qv 2) fu) fu) (oi (gs ad) (gw (i6 m5 rfl C.dict BG (fy (qv 5) ad)) (fy (qv 3) ad)))))))
  (fw (gp 9 nd (vr T.mkC GI hr rfl T.mgC bI .nil im (fy (qv 2) (gj (gz K (i0 K (qv 2) fu) fu) (oi (gs ad) (gw (i6 m5 rfl C.dict BG (fy (qv 5) ad)) (fy (qv 7) ad)))))))
  (fw (jw AO rfl (kd rfl C.range (jb (gh jo (gk GC ab cC (fy (qv 0) (gs ad))) fu) ad)) (jc 10 nd) (fw (ik (jj (qv 8) T.cl cS.meth GS bT cS.bind .nil im))
  (fw (ik (jj (qv 9) T.cl cS.meth GS bT cS.bind .nil im))
  (fw (ie (QW.qt (yu (gi ri (jj (qv 8) T.cl cW.meth GW b9 cW.bind .nil im) (jj (qv 9) T.cl cW.meth GW b9 cW.bind .nil im) (gn _)) (yu (gi (aex hu) (jj (qv 8) T.cl cX.meth GX ct cX.bind .nil im) (jj (qv 9) T.cl cX.meth GX ct cX.bind .nil im) (gn _)) (yk (gi (a3p (K:=K) rfl hu) (jj (qv 8) T.cl cL.meth GL ab cL.bind .nil im) (jj (qv 9) T.cl cL.meth GL ab cL.bind .nil im) (gn _)))))) (fz (gu ny)) iq)
  (fw (gp 11 nd (i6 m5 rfl C.dict BG (gw (jj (qv 8) T.cl cK.meth GK ab cK.bind .nil im) ad)))
  (fw (ik (a4l (qv 11) (qv 6)))
  (fz (ie (QW.qt (yu (gi (a3p (K:=K) rfl hu) (jj (qv 9) T.cl cK.meth GK ab cK.bind .nil im) (qv 11) (gn _)) (yk (gi ri (gh ij (ii v8 rfl C.len AV (gw (jj (qv 8) T.cl cK.meth GK ab cK.bind .nil im) ad)) (ii v8 rfl C.len AV (fy (qv 6) ad))) (ii v8 rfl C.len AV (fy (qv 11) ad)) (gn _))))) (fz (gu ny)) iq))))))))
  (fz (gu ny))))))))))),?_⟩
 obtain⟨a,ns,rfl,hS,q⟩:=h;refine g8 (a:=tAsg _ _) fun A1 bL _ _=>?_;refine⟨_,rfl,a,ns,0,rfl,hS,_,rfl,a,ns,1,rfl,hS,.mk _ _ 6 rfl (by decide) fun nl xs H1 e1 cO al cQ aC=>?_⟩;refine bL [some (.ref a),some (.ref nl),none,none,none,none,none,none,none,none,none,none] _ ?_;clear bL;refine g8 (a:=tAsg _ _) fun A2 bP _ _=>?_;refine⟨_,rfl,_,rfl,.mk a nl ns 11 xs rfl (e1.seq hS) cO al cQ aC (by decide) fun pl ts pcs H2 e2 b2 hps hok=>?_⟩;refine bP [some (.ref a),some (.ref nl),some (.ref pl),none,none,none,none,none,none,none,none,none] _ ?_;clear bP;have aN:=(e1.trans e2).seq hS;obtain⟨pc,an⟩:∃pc,pcs[0]? = some pc:=⟨_,Ag (by have:=hok.l1;lia)⟩
 obtain⟨t,ht⟩:∃t,ts[0]? = some t:=⟨_,Ag (by have:=AB hps;have:=hok.l1;lia)⟩
 have hpt:=Paired.at2 hps ht an;have a3:=hok.ok pc (AE an);have atT:atI (ts.map V.ref) 0=some (.ref t):=jg (j:=0) (by rw[Am,ht];rfl);refine g8 (a:=tAsg _ _) fun A3 bY _ _=>?_;refine⟨_,rfl,.mk a ns 2 rfl aN fun t' hd sl hp ss H3 e3 dv dR kt HL c4=>?_⟩;refine⟨t',_,rfl,SqT.of kt,rfl,_,_,rfl,_,_,rfl,rfl,?_⟩;refine bY [some (.ref a),some (.ref nl),some (.ref pl),some (.ref hd),some (.ref sl),none,none,none,none,none,none,none] _ ?_;clear bY kt;refine g8 (a:=tAsg _ _) fun A4 bQ _ _=>?_;refine⟨_,rfl,_,rfl,pl,_,_,_,rfl,rfl,SqL.of (e3 _ _ b2),atT,.mk t pc xs _ rfl (hpt.same e3) a3 al hok.heads fun zl zs H4 e4 dZ cD bu cj=>?_⟩;have zx:∀y∈zs,y∈xs:=fun y hy=>by
  obtain⟨z1,z2,z3⟩:=(cj y).mp hy;rcases a4i a3 z3 with z|z
  . rcases Ap.mp z with w|w
    . exact w
    . exact absurd (Ao.mp w) z2
  . exact absurd z z1
 have aO:zs.length<=6:=by rw[<- al];exact AW bu zx
 refine⟨_,rfl,.mk a zl sl ns ss zs 6 rfl ((e3.trans e4).seq aN) cD bu aO (e4 _ _ HL.hs) HL.ls fun vd F H5 e5 dD bW=>?_⟩;refine bQ [some (.ref a),some (.ref nl),some (.ref pl),some (.ref hd),some (.ref sl),some (.ref vd),none,none,none,none,none,none] _ ?_;clear bQ;have am:=HL.same (e4.trans e5);have ae:=(e3.trans e4).trans e5;refine g8 (a:=tAsg _ _) fun A5 bF _ _=>?_;refine⟨_,rfl,_,rfl,_,rfl,.mk hd sl vd a hp ss ns zs F rfl am c4 bW aO bu (ae.seq aN) fun fo g bes H6 e6 dw bp aU bn bl bg=>?_⟩;refine bF [some (.ref a),some (.ref nl),some (.ref pl),some (.ref hd),some (.ref sl),some (.ref vd),some (.ref fo),none,none,none,none,none] _ ?_;clear bF;obtain⟨cs,c6,ck,cv⟩:=a8s (K:=K) am.cu;have c3:(cs.map (·.1)).Nodup:=by rw[ck];exact am.nd
 have cZ:∀c∈cs,NoB bes c.1:=fun c hc z=>(bg _ z).2.2.2.1 c.1 (by rw[<- ck];exact Br (f:=fun c:Cl=>c.1) hc) rfl;have c8:cs.length<=6:=by have:=congrArg Hl ck;rw[Ad,Ad] at this;lia
 have ax:Paired (CellAt K H6) (hK hp) cs:=Paired.mapP c6 fun _ _ z=>z.keep fun b o z _ _ _=>e6 _ _ z;have bO:=Paired.app ax aU;refine g8 (a:=tAsg _ _) fun A6 ch _ _=>?_;refine⟨_,rfl,hd,_,rfl,e6 _ _ am.hd,fun I aW=>?_⟩;dsimp only[gq];refine ch [some (.ref a),some (.ref nl),some (.ref pl),some (.ref hd),some (.ref sl),some (.ref vd),some (.ref fo),some (.ref I),none,none,none,none] _ ?_;clear ch;refine g8 (a:=mn _) fun A7 bB _ _=>?_;have cF:I≠fo:=fun z=>by rw[z,bp] at aW;cases aW
 have s7:=gc aW (.dK (hK hp));refine⟨_,rfl,I,rfl,.inl ⟨_,.inl ft⟩,_,rfl,fo,_,_,rfl,ft,s7 _ _ bp,cF,ia (by have:=AB aU;have:=AB ax;lia),?_⟩;have mk:nq (hK hp) g=hK hp++g:=ud _ _ (by rw[q8 bO];exact zi (ua bn c3 cZ));rw[mk];have ao:Same H6 (upd (upd H6 I (.dK (hK hp))) I (.dK (hK hp++g))):=fun b o z=>by rw[fq (g6 z aW)];exact s7 _ _ z
 have bD:(upd (upd H6 I (.dK (hK hp))) I (.dK (hK hp++g))) I=some (.dK (hK hp++g)):=ft;generalize upd (upd H6 I (.dK (hK hp))) I (.dK (hK hp++g))=H7 at ao bD |-;refine bB [some (.ref a),some (.ref nl),some (.ref pl),some (.ref hd),some (.ref sl),some (.ref vd),some (.ref fo),some (.ref I),none,none,none,none] _ ?_;clear bB s7;have bw:=e6.trans ao;have aG:=ae.trans bw;have a7:Paired (PrcAt K H7 (B 5)) ts pcs:=Paired.mapP hps fun _ _ z=>z.same aG;have aj:=aG _ _ b2;have a9:=bw _ _ bW;have bA:=bw _ _ am.hd;have c0:=aG.seq aN;have c7:Paired (CellAt K H7) (hK hp++g) (cs++bes):=Paired.mapP bO fun _ _ z=>z.keep fun b o z _ _ _=>ao _ _ z;obtain⟨ds,dt,dG,dn,di,dx,dQ,dk,aZ⟩:=hpt.same aG;have ay:∀(G':Hp) (bd:Addr),ListX K G' (B 5) bd pc.body->∃e,Stands G' bd [] 0 (dueR pc.body ([]:Pre).reverse 0) e:=fun G' bd h=>by
  obtain⟨e,st,_⟩:=n0 (p:=[]) h rfl (AH _);exact⟨e,st⟩
 have aT:AtP pc.body (dueR pc.body ([]:Pre).reverse 0).1 (dueR pc.body ([]:Pre).reverse 0).2:=by
  obtain⟨e,st⟩:=ay _ _ aZ.body;exact zf aZ.body st
 generalize dueR pc.body ([]:Pre).reverse 0=due at ay aT;have cd:=a76 a3 al aC hok.heads;have cn:pcs.length<=10:=Ax hok.l3 (by decide);refine g8 (a:=tAsg _ _) fun A8 b6 _ _=>?_;refine⟨_,rfl,_,rfl,pl,_,_,_,rfl,rfl,SqL.of aj,atT,t,_,0,_,rfl,rfl,SqT.of aZ.tup,at0,(show 1<=sizeLine by decide),fun t0 cI=>?_⟩;obtain⟨H8,z0,s8,k8⟩:=gr cI (.tup [V.int 0]);rw[z0];refine⟨_,rfl,vd,_,rfl,s8 _ _ a9,fun va cU=>?_⟩;obtain⟨H9,z4,s9,k9⟩:=gr cU (.dK (vK zs F));rw[z4];refine⟨_,rfl,?_⟩;intro m1 dm1 ci cm _;have cA:Same H9 (upd (upd H9 dm1 (.own m1)) m1 (.ins CM dm1 [])):=fun b o z=>by rw[fq (g6 z ci),fq (g6 z cm)];exact z
 have ak:=s8.trans s9;refine .mk H9 m1 dm1 pl t0 va hd pc.name ts pcs 0 pc xs (vK zs F) (hK hp) (hp.map (·.1)) [] 0 due rfl cA ci ft (ak _ _ aj) (Paired.mapP a7 fun _ _ z=>z.same ak) hok.nn cn an rfl cd (SqT.of (s9 _ _ k8)) ay (AH _) k9 (ak _ _ bA) a3n fun G1 pd1 fl1 p1 df q1 d cd1 dM dF dd da dA d0 g1 aP u _ dE _=>⟨rfl,?_⟩
 refine b6 [some (.ref a),some (.ref nl),some (.ref pl),some (.ref hd),some (.ref sl),some (.ref vd),some (.ref fo),some (.ref I),some (.ref m1),none,none,none] _ ?_;clear b6;have au:=ak.trans (u.g1.trans u.gH);have ar:∀b,(b=m1\/b=cd1\/b=fl1\/b=p1\/b=d)->G1 b=none:=by
  rintro b (rfl|rfl|rfl|rfl|rfl)
  . exact u.n1
  . exact u.n4
  . exact u.n5
  . exact u.n2
  . exact u.n3
 have W:∀b,(b=m1\/b=cd1\/b=fl1\/b=p1\/b=d)->aP b≠none:=by
  rintro b (rfl|rfl|rfl|rfl|rfl) z
  . rw[u.hm] at z;cases z
  . rw[u.hcd] at z;cases z
  . rw[u.hfl] at z;cases z
  . rw[u.hp] at z;cases z
  . rw[u.hnd] at z;cases z
 refine g8 (a:=tAsg _ _) fun A9 bM _ _=>?_;refine⟨_,rfl,_,rfl,pl,_,_,_,rfl,rfl,SqL.of (au _ _ aj),atT,t,_,0,_,rfl,rfl,SqT.of (au _ _ aZ.tup),at0,(show 1<=sizeLine by decide),fun t2 cr=>?_⟩;obtain⟨bC,z5,aV,bU⟩:=gr cr (.tup [V.int 0]);rw[z5];refine⟨_,rfl,vd,_,rfl,aV _ _ (au _ _ a9),fun az a8=>?_⟩;obtain⟨v,z6,br,ca⟩:=gr a8 (.dK (vK zs F));rw[z6];refine⟨_,rfl,?_⟩;intro m2 dm2 aQ cf _;have m:=aV.trans br;have aS:Same G1 (rm (fun b=>(b=m1\/b=cd1\/b=fl1\/b=p1\/b=d)) v):=fun b o z=>by
  rw[iz (X:=fun b=>(b=m1\/b=cd1\/b=fl1\/b=p1\/b=d)) (fun w=>by rw[ar b w] at z;cases z)];exact m _ _ (u.gH _ _ z)
 have bv:(rm (fun b=>(b=m1\/b=cd1\/b=fl1\/b=p1\/b=d)) v) t2=some (.tup [V.int 0]):=by
  rw[iz (X:=fun b=>(b=m1\/b=cd1\/b=fl1\/b=p1\/b=d)) (fun w=>W _ w cr)];exact br _ _ bU
 have aD:(rm (fun b=>(b=m1\/b=cd1\/b=fl1\/b=p1\/b=d)) v) az=some (.dK (vK zs F)):=by
  rw[iz (X:=fun b=>(b=m1\/b=cd1\/b=fl1\/b=p1\/b=d)) (fun w=>W _ w (aV.free a8))];exact ca
 have rb:Same (rm (fun b=>(b=m1\/b=cd1\/b=fl1\/b=p1\/b=d)) v) v:=ko;have rn:∀b,(b=m1\/b=cd1\/b=fl1\/b=p1\/b=d)->(rm (fun b=>(b=m1\/b=cd1\/b=fl1\/b=p1\/b=d)) v) b=none:=fun b w=>by unfold rm;rw[if_pos w]
 have bj:(rm (fun b=>(b=m1\/b=cd1\/b=fl1\/b=p1\/b=d)) v) m2=none:=rb.free aQ;generalize rm (fun b=>(b=m1\/b=cd1\/b=fl1\/b=p1\/b=d)) v=GX at aS bv aD rb rn bj;have aL:Same H7 GX:=(ak.trans u.g1).trans aS;have aM:Same v (upd (upd v dm2 (.own m2)) m2 (.ins CM dm2 [])):=fun b o z=>by rw[fq (g6 z aQ),fq (g6 z cf)];exact z
 refine .mk GX m2 dm2 pl t2 az I pc.name ts pcs 0 pc xs (vK zs F) (hK hp++g) (hp.map (·.1)++bes.map (·.1)) [] 0 due rfl (rb.trans aM) bj ft (aL _ _ aj) (Paired.mapP a7 fun _ _ z=>z.same aL) hok.nn cn an rfl cd (SqT.of bv) ay (AH _) aD (aL _ _ bD) (by rw[Au,Au,a3n,q8 aU]) fun G2 pd2 fl2 p2 c9 q2 D cd2 dz dp dg de dm dO g2 R N2 bG bJ bV=>⟨rfl,?_⟩
 refine bM [some (.ref a),some (.ref nl),some (.ref pl),some (.ref hd),some (.ref sl),some (.ref vd),some (.ref fo),some (.ref I),some (.ref m1),some (.ref m2),none,none] _ ?_;clear bM;have aB:Same v R:=fun b o z=>bJ b o (aM _ _ z) (g6 z aQ);have ah:=m.trans aB;have b5:∀b,(b=m1\/b=cd1\/b=fl1\/b=p1\/b=d)->G2 b=none:=fun b w=>bG b (rn b w) (fun z=>W b w ((m.trans aM).free z));have bx:∀b,(b=m2\/b=cd2\/b=fl2\/b=p2\/b=D)->G2 b=none:=by
  rintro b (rfl|rfl|rfl|rfl|rfl)
  . exact N2.n1
  . exact N2.n4
  . exact N2.n5
  . exact N2.n2
  . exact N2.n3
 have bZ:∀b,(b=m2\/b=cd2\/b=fl2\/b=p2\/b=D)->aP b=none:=fun b w=>by
  rcases w with rfl|w
  . exact m.free aQ
  . exact (m.trans aM).free (bV b w)
 have ap:Same G1 (rm (fun b=>(b=m1\/b=cd1\/b=fl1\/b=p1\/b=d)\/(b=m2\/b=cd2\/b=fl2\/b=p2\/b=D)) R):=fun b o z=>by
  rw[iz (X:=fun b=>(b=m1\/b=cd1\/b=fl1\/b=p1\/b=d)\/(b=m2\/b=cd2\/b=fl2\/b=p2\/b=D)) (fun w=>w.elim (fun w=>by rw[ar b w] at z;cases z) (fun w=>by rw[(aS.trans N2.g1).free (bx b w)] at z;cases z))];exact ah _ _ (u.gH _ _ z)
 have aA:Same G2 (rm (fun b=>(b=m1\/b=cd1\/b=fl1\/b=p1\/b=d)\/(b=m2\/b=cd2\/b=fl2\/b=p2\/b=D)) R):=fun b o z=>by
  rw[iz (X:=fun b=>(b=m1\/b=cd1\/b=fl1\/b=p1\/b=d)\/(b=m2\/b=cd2\/b=fl2\/b=p2\/b=D)) (fun w=>w.elim (fun w=>by rw[b5 b w] at z;cases z) (fun w=>by rw[bx b w] at z;cases z))];exact N2.gH _ _ z
 have sX:Same (rm (fun b=>(b=m1\/b=cd1\/b=fl1\/b=p1\/b=d)\/(b=m2\/b=cd2\/b=fl2\/b=p2\/b=D)) R) R:=ko;have xn:∀b,(b=m1\/b=cd1\/b=fl1\/b=p1\/b=d)\/(b=m2\/b=cd2\/b=fl2\/b=p2\/b=D)->(rm (fun b=>(b=m1\/b=cd1\/b=fl1\/b=p1\/b=d)\/(b=m2\/b=cd2\/b=fl2\/b=p2\/b=D)) R) b=none:=fun b w=>by unfold rm;rw[if_pos w]
 generalize rm (fun b=>(b=m1\/b=cd1\/b=fl1\/b=p1\/b=d)\/(b=m2\/b=cd2\/b=fl2\/b=p2\/b=D)) R=X at ap aA sX xn;have bt:Same H7 X:=(ak.trans u.g1).trans ap;have bs:=u.same ah;have bm:=N2;rw[adl zs F] at bs bm;have ce:∀(ys:List Str),(∀y,y∈ys↔i5 y=true/\y∈allW (B 5) pc)->∀y∈ys,y∈zs:=fun ys hm y hy=>by
  obtain⟨h1,h2⟩:=(hm y).mp hy;rw[a1o a3] at h2;exact (cj y).mpr ⟨fun z=>(by rw[z,no_nil.2] at h1;cases h1),fun z=>(by rw[z,no_nil.1] at h1;cases h1),h2⟩
 have av:=bt.trans sX;have M1:=a6m bs ap sX (fun b h=>xn b (.inl h)) an (cs:=cs) (Paired.mapP ax fun _ _ z=>z.keep fun b o z _ _ _=>(ao.trans av) _ _ z) (ce _ u.zm) aO aT;have M2:=a6m bm aA sX (fun b h=>xn b (.inr h)) an (cs:=cs++bes) (Paired.mapP c7 fun _ _ z=>z.keep fun b o z _ _ _=>av _ _ z) (ce _ N2.zm) aO aT;have P1:=ab3 aC al hok (ap _ _ u.hpd) (Paired.mapP u.hps fun _ _ z=>z.same ap);have P2:=ab3 aC al hok (aA _ _ N2.hpd) (Paired.mapP N2.hps fun _ _ z=>z.same aA);have gd:=adc (i:=0) (pp:=due.1) (k:=due.2) bg ck cv am.nd u.gm;have ge:=a9r bg u.g0 u.gm N2.g0 N2.gm;have T0:Tw K CM CF X pcs ⟨m1,dm1,pd1,fl1,cd1,m2,dm2,pd2,fl2,cd2⟩ bes ⟨[⟨0,due.1,due.2,in0 zs F,""⟩],cs,g1,false⟩ ⟨[⟨0,due.1,due.2,in0 zs F,""⟩],cs++bes,g2,false⟩ 0 R:=by
  refine⟨_,_,_,_,_,_,M1,M2,fun b h1 h2=>?_,⟨rfl,ge,rfl,DR _⟩,gd,Ak _,by simpa using c8,by show (cs++bes).length<=0+12;rw[Aj];lia⟩;refine W b ?_ (bZ b ?_)
  . rcases mem_mu.mp h1 with h|h|h|h|h
    . exact .inl h
    . exact .inr (.inl h)
    . exact .inr (.inr (.inl h))
    . exact .inr (.inr (.inr (.inl (Ao.mp h))))
    . exact .inr (.inr (.inr (.inr (Ao.mp h))))
  . rcases mem_mu.mp h2 with h|h|h|h|h
    . exact .inl h
    . exact .inr (.inl h)
    . exact .inr (.inr (.inl h))
    . exact .inr (.inr (.inr (.inl (Ao.mp h))))
    . exact .inr (.inr (.inr (.inr (Ao.mp h))))
 have bR:=bt _ _ (ao _ _ bp);have co:Paired (CellAt K X) g bes:=Paired.mapP aU fun _ _ z=>z.keep fun b o z _ _ _=>(ao.trans bt) _ _ z;have cp:=av.seq c0;clear M1 M2 bs bm ap aA gd ge b5 bx bZ ah aB bJ bV bG rn rb bj aD bv aS aL m W ar u N2 ay aT;refine g8 (a:=tFor _ _ _) fun dr bE _ _=>?_;refine⟨_,rfl,a,ns,10,rfl,cp,_,_,rfl,rfl,(show (0:Int)<51 by decide),?_⟩;obtain⟨N,hN,db⟩:∃N:Nat,kn ns 10 % 51=(N:Int)/\N<51:=⟨(kn ns 10 % 51).toNat,by lia,by lia⟩
 refine⟨(N:Int),congrArg (fun x=>[V.int x]) hN,by lia,by lia,?_⟩;rw[Bo];refine ku (fun i σ G=>∃(s1 s2:PM) (bi aq:Option V),σ=[some (.ref a),some (.ref nl),some (.ref pl),some (.ref hd),some (.ref sl),some (.ref vd),some (.ref fo),some (.ref I),some (.ref m1),some (.ref m2),bi,aq]/\Tw K CM CF X pcs ⟨m1,dm1,pd1,fl1,cd1,m2,dm2,pd2,fl2,cd2⟩ bes s1 s2 i G) ⟨_,_,none,none,rfl,T0⟩ ?_ ?_
 . rintro i σ G hi ⟨s1,s2,bi,aq,rfl,T1⟩;dsimp only[gq];obtain⟨f1,bX,Z⟩:=T1.one;refine g8 (a:=mn _) fun C1 bz _ _=>?_;refine⟨_,rfl,m1,dm1,f1,rfl,bX,Z _ (by decide +kernel),T1.both bn P1 P2 (by lia) fun H1 k2 b1=>?_⟩;obtain⟨f2,cc,ac⟩:=k2;refine bz [some (.ref a),some (.ref nl),some (.ref pl),some (.ref hd),some (.ref sl),some (.ref vd),some (.ref fo),some (.ref I),some (.ref m1),some (.ref m2),some (.int (0+(i:Int))),aq] _ ?_;clear bz;refine g8 (a:=mn _) fun C2 b7 _ _=>?_;refine⟨_,rfl,m2,dm2,f2,rfl,cc,ac _ (by decide +kernel),b1 _ _ fun H2 T2=>?_⟩;refine b7 [some (.ref a),some (.ref nl),some (.ref pl),some (.ref hd),some (.ref sl),some (.ref vd),some (.ref fo),some (.ref I),some (.ref m1),some (.ref m2),some (.int (0+(i:Int))),aq] _ ?_;clear b7 b1 ac Z bX cc T1;generalize ju pcs s1=u1 at T2;generalize ju pcs s2=u2 at T2;obtain⟨M,ag,a1,a2,r1,r2,O,B2,dj,S,G,l1,l2,l3⟩:=T2;obtain⟨ew,eh⟩:=S.word (pcs:=pcs);obtain⟨dW,bo,b4⟩:=aa3 (aab (s:=u1) aC hok);have Z:=O.mf.meth;have ac:=B2.mf.meth;have a5:=O.S.fr a1 Af;have aX:=B2.S.fr a2 Af;have cq:a2.f=a1.f:=by
    have h1:=O.ef;have h2:=B2.ef;rw[S.f,<- h1] at h2;exact (FP h2).1
   have cY:a2.pc=a1.pc:=by
    have h1:=a5.hi;have h2:=aX.hi;rw[cq,h1] at h2;exact (A0 h2).symm
   obtain⟨l,bS,cE⟩:=O.C;obtain⟨aJ,cG,c2⟩:=B2.C;refine g8 (a:=tIfS _ _ _) fun C3 b8 _ _=>?_;refine⟨_,rfl,m1,dm1,M,rfl,O.hm,Z _ (by decide +kernel),O.word fun H3 e3=>⟨_,rfl,m2,dm2,ag,rfl,e3 _ _ B2.hm,ac _ (by decide +kernel),(B2.same e3).word fun H4 e4=>?_⟩⟩;have nt:¬ (!decide (V.str (oo pcs u1)=V.str (oo pcs u2)))=true:=by rw[ew,decide_eq_true rfl];decide
   refine⟨rfl,_,rfl,iteB (fun c=>absurd c nt) (fun _=>?_)⟩;have aR:=e3.trans e4;refine⟨_,rfl,m1,dm1,M,rfl,aR _ _ O.hm,Z _ (by decide +kernel),.mk X m1 dm1 pd1 fl1 cd1 M pcs u1 a1 r1 rfl (O.same aR) fun v1 H5 e5 w1=>?_⟩;have ae:=aR.trans e5;refine⟨_,rfl,m2,dm2,ag,rfl,ae _ _ B2.hm,ac _ (by decide +kernel),.mk X m2 dm2 pd2 fl2 cd2 ag pcs u2 a2 r2 rfl (B2.same ae) fun v2 H6 e6 w2=>?_⟩;have aF:=ae.trans e6;have cw:Dp K H6 v1 dW:=by
    refine b4 K H6 v1 ?_;cases hw:pj pcs u1 with
    | none=>rw[hw] at w1;exact w1
    | some x =>
     obtain⟨nm,pp,k⟩:=x;rw[hw] at w1;obtain⟨r,pt,g1,g2,g3⟩:=w1;exact⟨r,pt,g1,e6 _ _ g2,e6.seqT g3⟩
   rw[eh] at w2;refine⟨dW,dW,cw,b4 K H6 v2 w2,bo,bo,?_⟩;rw[J9 _ bo.1];refine⟨_,rfl,iteB (fun c=>absurd c Ai) (fun _=>?_)⟩;refine⟨_,rfl,m1,dm1,M,rfl,aF _ _ O.hm,Z _ (by decide +kernel),m1,pd1,fl1,cd1,_,_,_,_,_,_,_,_,_,rfl,(O.same aF).ma,aF _ _ a5.hnd,fun x1 cz=>?_⟩;obtain⟨bN,z7,s7,k7⟩:=gr cz (.dK (vK a1.ys a1.f.F));rw[z7];have Y:=aF.trans s7;refine⟨_,rfl,m2,dm2,ag,rfl,Y _ _ B2.hm,ac _ (by decide +kernel),m2,pd2,fl2,cd2,_,_,_,_,_,_,_,_,_,rfl,(B2.same Y).ma,Y _ _ aX.hnd,fun x2 cJ=>?_⟩;obtain⟨b3,z8,a0,aY⟩:=gr cJ (.dK (vK a2.ys a2.f.F));rw[z8];rw[cq] at aY;obtain⟨aI,aH⟩:=ada (K:=K) (H:=b3) (F:=a1.f.F) (zs:=a1.ys) (ys:=a2.ys) (fun y=>by rw[a5.ym,aX.ym,cY]) a5.yn aX.yn;refine .mk x1 x2 _ _ rfl rfl (a0 _ _ k7) aY aI aH ?_;refine⟨_,rfl,iteB (fun c=>absurd c Ai) (fun _=>?_)⟩;refine b8 [some (.ref a),some (.ref nl),some (.ref pl),some (.ref hd),some (.ref sl),some (.ref vd),some (.ref fo),some (.ref I),some (.ref m1),some (.ref m2),some (.int (0+(i:Int))),aq] _ ?_;clear b8;have a4:=Y.trans a0;clear Y aF ae aR w1 w2 cw k7 aY s7 a0 aI aH nt;refine g8 (a:=tAsg _ _) fun C4 bH _ _=>?_;refine⟨_,rfl,m1,dm1,M,rfl,a4 _ _ O.hm,Z _ (by decide +kernel),m1,dm1,pd1,fl1,cd1,M,_,_,_,rfl,a4 _ _ O.hm,O.mf,a4 _ _ bS,fun x3 cx=>⟨x3,_,rfl,ft,fun du aw=>?_⟩⟩;have cg:=gc cx (.dK l);generalize upd b3 x3 (.dK l)=af at cg aw |-;have a6:=a4.trans cg;dsimp only[gq];refine bH [some (.ref a),some (.ref nl),some (.ref pl),some (.ref hd),some (.ref sl),some (.ref vd),some (.ref fo),some (.ref I),some (.ref m1),some (.ref m2),some (.int (0+(i:Int))),some (.ref du)] _ ?_;clear bH;have aE:=gc aw (.dK l);have bq:af fo=some (.dK g):=a6 _ _ (O.S.sX _ _ bR);have c5:du≠fo:=fun z=>by rw[z,bq] at aw;cases aw
   have be:Paired (CellAt K af) l u1.cs:=Paired.mapP cE fun _ _ z=>z.keep fun b o z _ _ _=>a6 _ _ z;have bf:Paired (CellAt K af) g bes:=Paired.mapP co fun _ _ z=>z.keep fun b o z _ _ _=>(O.S.sX.trans a6) _ _ z;have pa:=Paired.app be bf;have dy:=AB be;have dJ:=AB bf;have b0:=ua bn G.nn fun c hc=>(G.c c hc).1;refine g8 (a:=mn _) fun C5 cb _ _=>?_;refine⟨_,rfl,du,rfl,.inl ⟨_,.inl ft⟩,_,rfl,fo,_,_,rfl,ft,aE _ _ bq,c5,ia (by lia),?_⟩;rw[ud _ _ (by rw[q8 pa];exact zi b0)];have e9:Same af (upd (upd af du (.dK l)) du (.dK (l++g))):=fun b o z=>by rw[fq (g6 z aw)];exact aE _ _ z
   have bk:(upd (upd af du (.dK l)) du (.dK (l++g))) du=some (.dK (l++g)):=ft;generalize upd (upd af du (.dK l)) du (.dK (l++g))=bh at e9 bk |-;refine cb [some (.ref a),some (.ref nl),some (.ref pl),some (.ref hd),some (.ref sl),some (.ref vd),some (.ref fo),some (.ref I),some (.ref m1),some (.ref m2),some (.int (0+(i:Int))),some (.ref du)] _ ?_;clear cb aE;have J:=a6.trans e9;refine⟨_,rfl,m2,dm2,ag,rfl,J _ _ B2.hm,ac _ (by decide +kernel),m2,dm2,pd2,fl2,cd2,ag,_,_,_,rfl,J _ _ B2.hm,B2.mf,J _ _ cG,fun x4 cy=>?_⟩;obtain⟨bc,z9,aa,ba⟩:=gr cy (.dK aJ);rw[z9];have ai:=J.trans aa;obtain⟨aI,aH⟩:=aa2 (K:=K) (H:=bc) (Paired.mapP c2 fun _ _ z=>z.keep fun b o z _ _ _=>ai _ _ z) (Paired.mapP pa fun _ _ z=>z.keep fun b o z _ _ _=>(e9.trans aa) _ _ z) S.p b0;refine⟨_,rfl,.mk x4 du _ _ rfl rfl ba (aa _ _ bk) aI aH ?_⟩;refine⟨_,rfl,iteB (fun c=>absurd c Ai) (fun _=>?_)⟩;refine⟨_,rfl,m1,dm1,M,rfl,ai _ _ O.hm,Z _ (by decide +kernel),m1,dm1,pd1,fl1,cd1,M,_,_,_,rfl,ai _ _ O.hm,O.mf,ai _ _ bS,fun x5 c1=>⟨x5,_,rfl,ft,?_⟩⟩;have bb:=gc c1 (.dK l);generalize upd bc x5 (.dK l)=dc at bb |-;have L:=aa.trans bb;refine⟨_,rfl,fo,_,rfl,(e9.trans L) _ _ bq,_,_,rfl,rfl,_,rfl,du,_,rfl,L _ _ bk,rfl,_,rfl,iteB (fun c=>?_) (fun _=>?_)⟩
   . rw[Aj] at c;refine absurd c ?_;rw[decide_eq_true (by rw[Int.natCast_add])];decide
   . exact⟨u1,u2,_,_,rfl,⟨M,ag,a1,a2,r1,r2,O.same (J.trans L),B2.same (J.trans L),dj,S,G,l1,l2,l3⟩⟩
 . rintro σ G ⟨s1,s2,bi,aq,rfl,T1⟩;exact bE _ _ (q _)
theorem ug(X:K.In h)(G:h.Ns mainGlobals mg)(e:Av K mainGlobals x=some (some (.ref a))):Glob mg x (.ref a):=⟨_,DA X G e,rfl⟩
theorem a28(X:K.In h)(G:h.Ns mainGlobals mg)(e:Av K mainGlobals x=some (some (.str y t)))(a:y=z):Glob mg x (.str z):=⟨_,DA X G e,t,by rw[a]⟩
theorem aal(X:K.In h)(G:h.Ns mainGlobals mg)(e:Av K mainGlobals x=some (some (.int i t)))(a:i=j):Glob mg x (.int j):=⟨_,DA X G e,t,by rw[a]⟩
theorem rel_find(h:Paired (fun (kv:Str×V) (e:DictEntry)=>∃a t u,e=⟨a,.str kv.1 t,u⟩/\RelV kv.2 u) kvs es.toList)(x:Str):RelO (kvs.lookup x) (findBy BW es x):=by
 unfold findBy;rw[<- Iz];generalize es.toList=l at h;have b:∀y t,BW x (.str y t)=(x == y):=fun y t=>by
  show (y == x)=(x == y)
  exact Bool.eq_iff_iff.mpr ⟨fun z=>beq_iff_eq.mpr (beq_iff_eq.mp z).symm,fun z=>beq_iff_eq.mpr (beq_iff_eq.mp z).symm⟩
 induction h with
 | nil=>exact trivial
 | cons h1 _ ih =>
  rename_i kv e _ _ _;obtain⟨k,v⟩:=kv;obtain⟨a,t,u,rfl,r⟩:=h1;simp only[BJ,b,Cj];dsimp only at r ih |-;cases x == k with
  | true=>exact r
  | false=>exact ih
theorem ig(F:Fun K x b st f fd)(X:K.In h)(G:h.Ns mainGlobals mg)(a:Av K mainGlobals x=some (some (.ref f)))(ps:List Str)(hb:∀(kV c g:Value) (e:Option Addr) (d ct:Value) (us:List Value),us.length=ps.length->bindArgs (CS x b (o8 st) (lv st) (iu st) .none kV c g e d ct) ⟨us,[]⟩=pure (ps.zip us):=by intro _ _ _ _ _ _ us hl;rcases us with _|⟨_,_|⟨_,_|⟨_,_|⟨_,_|⟨_,_|⟨_,_|⟨_,_⟩⟩⟩⟩⟩⟩⟩<;>first|rfl|cases hl):Cal K mg x f fd ps:=⟨DA X G a,F.kp,F.binds hb⟩
theorem jt(F:Fun K x b st f fd)(a:AG K (.ref C) x=some (some (.ref f)))(i:BA K (.ref f)=true)(ps:List Str)(hb:∀(kV c g:Value) (e:Option Addr) (d ct:Value) (us:List Value),us.length=ps.length->bindArgs (CS x b (o8 st) (lv st) (iu st) .none kV c g e d ct) ⟨us,[]⟩=pure (ps.zip us):=by intro _ _ _ _ _ _ us hl;rcases us with _|⟨_,_|⟨_,_|⟨_,_|⟨_,_|⟨_,_|⟨_,_|⟨_,_⟩⟩⟩⟩⟩⟩⟩<;>first|rfl|cases hl):MCal K C x f fd ps:=⟨⟨a,i,F.kp⟩,F.binds hb⟩
theorem all_mk{l:Hc}(X:K.In h)(G:h.Ns mainGlobals mg)(cC:mg "law" = some (.ref fa))(M:Av K mainGlobals "Frame" = some (some (.ref g)))(c:Av K mainGlobals "Machine" = some (some (.ref a)))(a1:Av K mainGlobals "is_name" = some (some (.ref f1)))(F1:Fun K "is_name" "is_name" a01 f1 d1)(a2:Av K mainGlobals "names_of" = some (some (.ref f2)))(F2:Fun K "names_of" "names_of" xl f2 d2)(a3:Av K mainGlobals "number_of" = some (some (.ref f3)))(F3:Fun K "number_of" "number_of" a69 f3 d3)(a4:Av K mainGlobals "holds" = some (some (.ref f4)))(F4:Fun K "holds" "holds" a7e f4 d4)(a5:Av K mainGlobals "lists_in" = some (some (.ref f5)))(F5:Fun K "lists_in" "lists_in" a18 f5 d5)(a6:Av K mainGlobals "own_deed" = some (some (.ref f6)))(F6:Fun K "own_deed" "own_deed" a2p f6 d6)(a7:Av K mainGlobals "own_deeds" = some (some (.ref f7)))(F7:Fun K "own_deeds" "own_deeds" a0p f7 d7)(a8:Av K mainGlobals "cell_name" = some (some (.ref f8)))(F8:Fun K "cell_name" "cell_name" a0g f8 d8)(a9:Av K mainGlobals "all_deeds" = some (some (.ref f9)))(F9:Fun K "all_deeds" "all_deeds" sAll f9 d9)(et:Av K mainGlobals "words_of" = some (some (.ref dU)))(bd:Fun K "words_of" "words_of" a5y dU eK)(dz:Av K mainGlobals "names_in" = some (some (.ref dH)))(bB:Fun K "names_in" "names_in" a1f dH fk)(ev:Av K mainGlobals "by_names" = some (some (.ref em)))(ay:Fun K "by_names" "by_names" xu em eO)(eb:Av K mainGlobals "list_of" = some (some (.ref dg)))(bJ:Fun K "list_of" "list_of" a41 dg eR)(eG:Av K mainGlobals "found_at" = some (some (.ref cG)))(bm:Fun K "found_at" "found_at" a7z cG fb)(dS:Av K mainGlobals "behind_deed" = some (some (.ref cI)))(bh:Fun K "behind_deed" "behind_deed" a47 cI e0)(cf:Av K mainGlobals "settled" = some (some (.ref dj)))(bM:Fun K "settled" "settled" a1p dj fe)(b6:Av K mainGlobals "_law_cell_at" = some (some (.ref c7)))(aZ:Fun K "_law_cell_at" "_law_cell_at" a54 c7 eU)(dZ:Av K mainGlobals "_law_rich" = some (some (.ref dr)))(aY:Fun K "_law_rich" "_law_rich" ab5 dr eI)(b1:Av K mainGlobals "_law_fed" = some (some (.ref cw)))(bk:Fun K "_law_fed" "_law_fed" sFed cw fh)(dh:Av K mainGlobals "_law_digit" = some (some (.ref dq)))(bi:Fun K "_law_digit" "_law_digit" a6c dq eY)(c0:Av K mainGlobals "_law_unlike" = some (some (.ref cL)))(bt:Fun K "_law_unlike" "_law_unlike" a4a cL fm)(ds:Av K mainGlobals "_law_names" = some (some (.ref du)))(bD:Fun K "_law_names" "_law_names" a5w du e4)(b5:Av K mainGlobals "_law_plain" = some (some (.ref dG)))(aR:Fun K "_law_plain" "_law_plain" a7g dG e6)(df:Av K mainGlobals "_law_closed" = some (some (.ref co)))(a0:Fun K "_law_closed" "_law_closed" a45 co e1)(eu:Av K mainGlobals "_law_body" = some (some (.ref dv)))(aQ:Fun K "_law_body" "_law_body" ab4 dv e8)(dY:Av K mainGlobals "_law_program" = some (some (.ref bU)))(aJ:Fun K "_law_program" "_law_program" abi bU eV)(dP:Av K mainGlobals "_law_said_by" = some (some (.ref b8)))(bg:Fun K "_law_said_by" "_law_said_by" a3z b8 e9)(ew:Av K mainGlobals "_law_told_names" = some (some (.ref dC)))(aK:Fun K "_law_told_names" "_law_told_names" aax dC e7)(cM:Av K mainGlobals "_law_value" = some (some (.ref eo)))(aI:Fun K "_law_value" "_law_value" a8a eo fn)(cB:Av K mainGlobals "_law_heap" = some (some (.ref ei)))(aX:Fun K "_law_heap" "_law_heap" ab9 ei e5)(dJ:Av K mainGlobals "_law_values" = some (some (.ref cP)))(bA:Fun K "_law_values" "_law_values" a3f cP eJ)(b0:Av K mainGlobals "_law_beside" = some (some (.ref ee)))(bN:Fun K "_law_beside" "_law_beside" a3g ee eW)(c5:Av K mainGlobals "law" = some (some (.ref bS)))(bO:Fun K "law" "law" sLaw bS e2)(aB:AG K (.ref g) "__init__" = some (some (.ref ax)))(aU:BA K (.ref ax)=true)(be:Fun K "__init__" "Frame.__init__" a77 ax eQ)(dO:AG K (.ref g) "deed" = some (some (.ref bl)))(dm:BA K (.ref bl)=true)(aS:Fun K "deed" "Frame.deed" a1n bl fc)(el:AG K (.ref g) "move" = some (some (.ref aD)))(bZ:BA K (.ref aD)=true)(aL:Fun K "move" "Frame.move" a60 aD fg)(ca:AG K (.ref g) "number" = some (some (.ref bb)))(cH:BA K (.ref bb)=true)(bw:Fun K "number" "Frame.number" a4r bb eN)(ba:AG K (.ref a) "__init__" = some (some (.ref ao)))(bq:BA K (.ref ao)=true)(aV:Fun K "__init__" "Machine.__init__" a2f ao fl)(c8:AG K (.ref a) "word" = some (some (.ref bc)))(bQ:BA K (.ref bc)=true)(bH:Fun K "word" "Machine.word" a6f bc e3)(dI:AG K (.ref a) "where" = some (some (.ref aA)))(ci:BA K (.ref aA)=true)(bn:Fun K "where" "Machine.where" a3a aA eM)(b3:AG K (.ref a) "held" = some (some (.ref aO)))(cY:BA K (.ref aO)=true)(bp:Fun K "held" "Machine.held" a86 aO eT)(cc:AG K (.ref a) "heap" = some (some (.ref bf)))(ce:BA K (.ref bf)=true)(bL:Fun K "heap" "Machine.heap" a78 bf eX)(cK:AG K (.ref a) "step" = some (some (.ref aM)))(cZ:BA K (.ref aM)=true)(bF:Fun K "step" "Machine.step" a66 aM fj)(c3:AG K (.ref a) "branch" = some (some (.ref bP)))(ej:BA K (.ref bP)=true)(bu:Fun K "branch" "Machine.branch" a2t bP ff)(cz:AG K (.ref a) "enter" = some (some (.ref aC)))(b4:BA K (.ref aC)=true)(aF:Fun K "enter" "Machine.enter" a4d aC eP)(c2:AG K (.ref a) "leave_ended" = some (some (.ref bv)))(cj:BA K (.ref bv)=true)(aH:Fun K "leave_ended" "Machine.leave_ended" a3x bv fi)(eg:AG K (.ref a) "change" = some (some (.ref bo)))(ch:BA K (.ref bo)=true)(bE:Fun K "change" "Machine.change" a2a bo eZ)(E:Ds K g JC=true)(Q:DL K g=true)(N:EF K g=true)(Y:AG K (.ref g) "__setattr__" = some (some (.builtin "object.__setattr__")))(L:Fb K g=true)(Z:CA K (.ref g)=true)(S:AG K (.ref g) "procedure" = some none)(O:AG K (.ref g) "path" = some none)(J:AG K (.ref g) "numbers" = some none)(aa:AG K (.ref g) "receiver" = some none)(u:Ds K a JC=true)(j:DL K a=true)(k:EF K a=true)(d:AG K (.ref a) "__setattr__" = some (some (.builtin "object.__setattr__")))(i:Fb K a=true)(o:CA K (.ref a)=true)(m:AG K (.ref a) "procedures" = some none)(f:AG K (.ref a) "frames" = some none)(p:AG K (.ref a) "cells" = some none)(y:AG K (.ref a) "greatest" = some none)(q:AG K (.ref a) "fallen" = some none)(z1:Av K mainGlobals "len" = some none)(z2:Av K mainGlobals "all" = some none)(z3:Av K mainGlobals "any" = some none)(z4:Av K mainGlobals "isinstance" = some none)(z5:Av K mainGlobals "list" = some none)(z6:Av K mainGlobals "int" = some none)(z7:Av K mainGlobals "bool" = some none)(z8:Av K mainGlobals "str" = some none)(z9:Av K mainGlobals "dict" = some none)(bX:Av K mainGlobals "sorted" = some none)(d0:Av K mainGlobals "set" = some none)(ef:Av K mainGlobals "sum" = some none)(ck:Av K mainGlobals "range" = some none)(cg:Av K mainGlobals "tuple" = some none)(ek:Av K mainGlobals "max" = some none)(cu:Av K mainGlobals "zip" = some none)(dX:Av K mainGlobals "min" = some none)(bW:Av K mainGlobals "enumerate" = some none)(gL:Av K mainGlobals "LETTERS" = some (some (.str yL tL)))(eL:yL=Mir.letters)(gF:Av K mainGlobals "FIGURES" = some (some (.str yF tF)))(eF:yF=Mir.figures)(gS:Av K mainGlobals "MOST_SIGNS" = some (some (.int jS tS)))(eS:jS=8)(gN:Av K mainGlobals "NO_NAMES" = some (some (.ref aN)))(lN:K.lookup aN=some oN)(cN:oN.cls=.type "tuple")(dN:oN.data=.seq ak nN)(sN:ak.size<=100)(vN:Vals (Mir.noNames.map V.str) ak.toList)(gT:Av K mainGlobals "FIELDS" = some (some (.ref aT)))(lT:K.lookup aT=some oT)(cT:oT.cls=.type "tuple")(dT:oT.data=.seq aq nT)(sT:aq.size<=100)(bT:oT.dict=none)(vT:Vals (([("first" : Str),"second"]:List Str).map V.str) aq.toList)(gP:Av K mainGlobals "PLAIN_FORMS" = some (some (.ref aP)))(lP:K.lookup aP=some ⟨.type "dict",none,.dict es nP,#[]⟩)(hP:Hf w.params es.toList)(mP:(aP == sysModules)=false)(rP:∀x,RelO (([("set",.ref t1),("read",.ref t2),("write",.ref t3),("new",.ref t4),("free",.ref t5)]:List (Str×V)).lookup x) (findBy BW es x))(ed:K.lookup t1=some o1)(bY:o1.cls=.type "tuple")(cb:o1.data=.seq aw n1)(dV:aw.size<=100)(dQ:Vals ((["name","value"]:List Str).map V.str) aw.toList)(dE:K.lookup t2=some o2)(de:o2.cls=.type "tuple")(en:o2.data=.seq av n2)(c4:av.size<=100)(dw:Vals ((["name","name","field"]:List Str).map V.str) av.toList)(cE:K.lookup t3=some o3)(dL:o3.cls=.type "tuple")(dA:o3.data=.seq am n3)(cp:am.size<=100)(eD:Vals ((["name","field","value"]:List Str).map V.str) am.toList)(cy:K.lookup t4=some o4)(db:o4.cls=.type "tuple")(dx:o4.data=.seq al n4)(cD:al.size<=100)(bR:Vals ((["name","value","value"]:List Str).map V.str) al.toList)(cS:K.lookup t5=some o5)(dy:o5.cls=.type "tuple")(cJ:o5.data=.seq ah n5)(dF:ah.size<=100)(cU:Vals ((["name"]:List Str).map V.str) ah.toList)(gE:Av K mainGlobals "CELL_PLACES" = some (some (.ref aE)))(lE:K.lookup aE=some ⟨.type "dict",none,.dict ec nE,#[]⟩)(hE:Hf w.params ec.toList)(mE:(aE == sysModules)=false)(rE:∀x,RelO (([("read",.int 2),("write",.int 1),("free",.int 1)]:List (Str×V)).lookup x) (findBy BW ec x)):
 ∃fd:FuncData,(∀(s:Shared) (v:Value),BindsTo s fd ⟨[v],[]⟩ [("_law_script",v)])/\∀base:Heap,K.In base->base.Ns mainGlobals mg->FnOk l.prog w K mg base CX0 15 fa fd ["_law_script"] (a11 K):=by
 have e:=cC.symm.trans (DA X G c5);cases e;have C1:=ig F1 X G a1 ["text"];have C2:=ig F2 X G a2 ["telling"];have C3:=ig F3 X G a3 ["values","word"];have C4:=ig F4 X G a4 ["values","fact"];have C5:=ig F5 X G a5 ["deed"];have C6:=ig F6 X G a6 ["deed"];have C7:=ig F7 X G a7 ["deeds"];have C8:=ig F8 X G a8 ["deed"];have C9:=ig F9 X G a9 ["deeds"];have eq:=ig bd X G et ["deed"];have eE:=ig bB X G dz ["procedure"];have cQ:=ig ay X G ev ["program"];have az:=ig bJ X G eb ["body","path"];have bx:=ig bm X G eG ["body","path"];have ac:=ig bh X G dS ["path"];have bj:=ig bM X G cf ["body","path"];have I:=ig aZ X G b6 ["_law_script","_law_k"];have dk:=ig aY X G dZ ["_law_cell","_law_k"];have D:=ig bk X G b1 ["_law_cell","_law_k"];have A:=ig bi X G dh ["_law_digits","_law_many"];have dM:=ig bt X G c0 ["_law_name","_law_names_here"];have eh:=ig bD X G ds ["_law_base","_law_place","_law_many"];have cA:=ig aR X G b5 ["_law_digits","_law_own","_law_every","_law_word"];have eC:=ig a0 X G df ["_law_blocks"];have b2:=ig aQ X G eu ["_law_cells","_law_own","_law_every","_law_heads"];have b9:=ig aJ X G dY ["_law_script","_law_start","_law_names_here"];have dn:=ig bg X G dP ["_law_deed"];have b7:=ig aK X G ew ["_law_procedure"];have bC:=ig aI X G cM ["_law_digits","_law_spots"];have cx:=ig aX X G cB ["_law_script","_law_start"];have da:=ig bA X G dJ ["_law_script","_law_start","_law_told","_law_spots"];have ep:=ig bN X G b0 ["_law_heap_here","_law_values_here","_law_script"];have bI:=jt be aB aU ["self","procedure","path","numbers","receiver"];have au:=jt aS dO dm ["self"];have ag:=jt aL el bZ ["self","path"];have ae:=jt bw ca cH ["self","word"];have cO:=jt aV ba bq ["self","program","name","path","values","heap"];have ar:=jt bH c8 bQ ["self"];have cs:=jt bn dI ci ["self"];have eB:=jt bp b3 cY ["self"];have cR:=jt bL cc ce ["self"];have dd:=jt bF cK cZ ["self"];have cq:=jt bu c3 ej ["self","frame","deed"];have cv:=jt aF cz b4 ["self","frame","deed"];have cm:=jt aH c2 cj ["self"];have ey:=jt bE eg ch ["self","frame","deed"];have C:Con K mg w:={
  len:=AY X G z1
  all:=AY X G z2
  any:=AY X G z3
  isi:=AY X G z4
  list:=AY X G z5
  int:=AY X G z6
  bool:=AY X G z7
  str:=AY X G z8
  dict:=AY X G z9
  sorted:=AY X G bX
  set:=AY X G d0
  sum:=AY X G ef
  range:=AY X G ck
  tuple:=AY X G cg
  max:=AY X G ek
  zip:=AY X G cu
  min:=AY X G dX
  enumerate:=AY X G bW
  letters:=a28 X G gL eL
  figures:=a28 X G gF eF
  mostSigns:=aal X G gS eS
  noNames:=⟨aN,ug X G gN,fun _=>.inr ⟨oN,ak,nN,lN,cN,dN,Ax sN (by decide),vN⟩⟩
  fields:=⟨aT,ug X G gT,(fun _=>.inr ⟨oT,aq,nT,lT,cT,dT,Ax sT (by decide),vT⟩),oT,lT,cT,bT⟩
  places:=⟨aE,ug X G gE,ec,nE,lE,hE,mE,rE⟩
  forms:=⟨aP,[("set",t1),("read",t2),("write",t3),("new",t4),("free",t5)],ug X G gP,⟨es,nP,lP,hP,mP,rP⟩,rfl,fun w t r h1 h2 H=>by
   have S1:SqT K H t1 (([("name" : Str),"value"]:List Str).map V.str):=.inr ⟨o1,aw,n1,ed,bY,cb,Ax dV (by decide),dQ⟩;have S2:SqT K H t2 (([("name" : Str),"name","field"]:List Str).map V.str):=.inr ⟨o2,av,n2,dE,de,en,Ax c4 (by decide),dw⟩;have S3:SqT K H t3 (([("name" : Str),"field","value"]:List Str).map V.str):=.inr ⟨o3,am,n3,cE,dL,dA,Ax cp (by decide),eD⟩;have S4:SqT K H t4 (([("name" : Str),"value","value"]:List Str).map V.str):=.inr ⟨o4,al,n4,cy,db,dx,Ax cD (by decide),bR⟩;have S5:SqT K H t5 (([("name" : Str)]:List Str).map V.str):=.inr ⟨o5,ah,n5,cS,dy,cJ,Ax dF (by decide),cU⟩;have hl:=um xq h2;simp only[Ah,Ay,or_false,Prod.mk.injEq] at h1;rcases h1 with⟨rfl,rfl⟩|⟨rfl,rfl⟩|⟨rfl,rfl⟩|⟨rfl,rfl⟩|⟨rfl,rfl⟩
   . rw[show forms.lookup ("set" : Str)=some [("name" : Str),"value"] by decide +kernel] at hl;cases hl;exact S1
   . rw[show forms.lookup ("read" : Str)=some [("name" : Str),"name","field"] by decide +kernel] at hl;cases hl;exact S2
   . rw[show forms.lookup ("write" : Str)=some [("name" : Str),"field","value"] by decide +kernel] at hl;cases hl;exact S3
   . rw[show forms.lookup ("new" : Str)=some [("name" : Str),"value","value"] by decide +kernel] at hl;cases hl;exact S4
   . rw[show forms.lookup ("free" : Str)=some [("name" : Str)] by decide +kernel] at hl;cases hl;exact S5⟩ }
 obtain⟨_,_,kV,dc,pm,an,cd,ct,_,rfl,_,_⟩:=id bO.ex;refine⟨CS "law" "law" (o8 sLaw) (lv sLaw) (iu sLaw) .none kV dc pm an cd ct,fun s v=>.of_eq rfl,fun base _ _=>?_⟩;have O1:=a5t (P:=l.prog) (base:=base) C F1;have O2:=a5q (P:=l.prog) (base:=base) C F2;have U:TxF K mg g ax:=⟨⟨E,Q,N,Y⟩,S,O,J,aa,DA X G M,⟨L,aB,aU,Z⟩⟩
 have T:TxM K mg a ao:=⟨⟨u,j,k,d⟩,m,f,p,y,q,DA X G c,⟨i,ba,bq,o⟩⟩
 have O5:=a5e (P:=l.prog) (base:=base) C F5;have s0:FnOk l.prog w K mg base CX0 1 f9 d9 ["deeds"] (spAll K []):=act;have s1:=su (n:=0) (b:=30) (bs:=B 0) C F9 O5 C5 s0 C9;have s2:=su (n:=1) (b:=30) (bs:=B 1) C F9 O5 C5 s1 C9;have s3:=su (n:=2) (b:=30) (bs:=B 2) C F9 O5 C5 s2 C9;have s4:=su (n:=3) (b:=30) (bs:=B 3) C F9 O5 C5 s3 C9;have s5:=su (n:=4) (b:=30) (bs:=B 4) C F9 O5 C5 s4 C9;have cW:=a2x  C bd O2 C2;have c6:=a5m (n:=5) (bs:=B 5) (by decide) C bB O2 C2 s5 C9 cW eq O1 C1;have c9:=ae5 (P:=l.prog) (base:=base) C ay;have aW:=a8o  C bJ O5 C5;have br:=a9f  C bm aW az;have ab:=a65 (P:=l.prog) (base:=base) C bh;have aG:=a51  C bM aW az br bx ab ac;have w0:FnOk l.prog w K mg base CX0 1 f7 d7 ["deeds"] (spCopy K []):=aan;have v1:=sk (n:=0) (bs:=B 0) C F6 w0 C7;have w1:=qq (n:=1) (b:=30) (bs:=B 0) (by decide) C F7 v1 C6;have v2:=sk (n:=2) (bs:=B 1) C F6 w1 C7;have w2:=qq (n:=3) (b:=30) (bs:=B 1) (by decide) C F7 v2 C6;have v3:=sk (n:=4) (bs:=B 2) C F6 w2 C7;have w3:=qq (n:=5) (b:=30) (bs:=B 2) (by decide) C F7 v3 C6;have v4:=sk (n:=6) (bs:=B 3) C F6 w3 C7;have w4:=qq (n:=7) (b:=30) (bs:=B 3) (by decide) C F7 v4 C6;have v5:=sk (n:=8) (bs:=B 4) C F6 w4 C7;have w5:=qq (n:=9) (b:=30) (bs:=B 4) (by decide) C F7 v5 C6;have O3:=a9a (P:=l.prog) (base:=base) C F3;have O4:=a9u  C F4 O3 C3;have O8:=a34 (P:=l.prog) (base:=base) C F8;have ap:=ad8  U bw O3 C3;have ai:=a9k  U aS br bx;have aj:=a9b  U aL aG bj;have bG:=a9p (n:=7) (bs:=B 5) (by decide) C U be aG bj (c6.mono (by decide)) eE;have di:=aby (P:=l.prog) (base:=base) C T U bp;have er:=ac4 (P:=l.prog) (base:=base) C T bL;have af:=ad4  C T U bH ai au;have dp:=a6v  C T U bE ap ae;have ez:=a9m  C T U aH ai au;have cV:=a85  C U bu O4 C4 aj ag ab ac;have cn:=a92 (n:=8) (by decide) C T U aF ap ae aj ag ab ac bG bI.bind;have cF:=add (n:=10) (by decide) C T U bF af ar ai au ap ae cV cq cn cv dp ey aj ag ez cm O8 C8 ab ac;have ea:=a62 (n:=11) (bs:=B 5) C T U aV w5 C7 c9 cQ (bG.mono (by decide)) bI.bind;have F:=a87 (P:=l.prog) (base:=base) C aZ;have dt:=abt (P:=l.prog) (w:=w) (mg:=mg) (base:=base) aY;have R:=ado  bk dt dk;have z:=aap (P:=l.prog) (w:=w) (mg:=mg) (base:=base) bi;have cl:=a5u (P:=l.prog) (base:=base) C bt;have dR:=aa5  C bD R D z A cl dM;have dD:=a9h  C T U bn af ar;have dB:=aa6  C aR z A;have cr:=a7i (P:=l.prog) (base:=base) C a0;have cX:=aca  C aQ R D z A cr eC dB cA;have c1:=ad2  C aJ F I cX b2;have bV:=a83 (P:=l.prog) (base:=base) C bg;have dK:=abu  C aK bV dn;have bz:=a9t  C aI z A;have dW:=aai  C aX F I R D z A bz bC;have eH:=a6g  C bA F I R D bz bC;have eA:=a8b  C bN F I R D z A;exact aeg (n:=13) (by decide) (by decide) C T U bO F I dR eh c1 b9 dW cx eH da dK b7 eA ep ea cO.bind cF dd af ar dD cs di eB er cR
theorem walk{l:Hc}{K:Params->Ac}(hn:l.most=some 63)(c:d.params.defaults=[])(i:∀(w:World) (h:Heap),g w h->(K w.params).In h)(F:∀(w:World) (mg:Str->Option Value) (e:Addr) (h:Heap),(K w.params).In h->h.Ns mainGlobals mg->mg d.name=some (.ref e)->
 ∃fd:FuncData,(∀(s:Shared) (u:Value),BindsTo s fd ⟨[u],[]⟩ [("_law_script",u)])/\∀base:Heap,(K w.params).In base->base.Ns mainGlobals mg->FnOk l.prog w (K w.params) mg base CX0 15 e fd ["_law_script"] (a11 (K w.params))):
 JF q b m g l.row.toRowW d [] (fun f vs=>Ju f vs) :=
 L2.walk_of (n:=63) (k:=15) (x := "_law_script") (CX:=fun _=>CX0) (sp:=fun w=>a11 (K w.params)) hn (by decide) c ⟨rfl,by decide,by decide⟩ i F (fun _ _ a ns hl _ j=>⟨a,ns,rfl,j,fun _=>rfl⟩) fun _ _ _ _ _ z=>z
end K56
end
open PySem PySem.W PyProof.Rows
namespace PySem.W.Fast
theorem tw1864384487840525721:True:=⟨⟩
theorem tw985419265566453205:True:=⟨⟩
theorem tw16841510429313324820:True:=⟨⟩
theorem tw6160454460234688509:True:=⟨⟩
theorem tw8778199364961448463:True:=⟨⟩
theorem tw8932902532847520861:True:=⟨⟩
theorem tw8773630555857710492:True:=⟨⟩
theorem tw15726212861896835113:True:=⟨⟩
theorem tw12551964466032536207:True:=⟨⟩
theorem tw1034713187707346199:True:=⟨⟩
theorem tw13280790410332560100:True:=⟨⟩
theorem tw7805565053503125889:True:=⟨⟩
theorem tw7484423160374746235:True:=⟨⟩
theorem tw16728006182722028769:True:=⟨⟩
theorem tw4337224987664721650:True:=⟨⟩
theorem tw4374292805308161712:True:=⟨⟩
theorem tw1648344768800250397:True:=⟨⟩
theorem tw4901395590117624553:True:=⟨⟩
theorem tw6288771333718628676:True:=⟨⟩
theorem tw17517117199802697308:True:=⟨⟩
theorem tw7073366500748995389:True:=⟨⟩
theorem tw10708699827391552508:True:=⟨⟩
theorem tw520617195093958381:True:=⟨⟩
theorem tw16984170589977671734:True:=⟨⟩
theorem tw9897274818778108506:True:=⟨⟩
theorem tw14462188848453721823:True:=⟨⟩
theorem tw3156130014145329290:True:=⟨⟩
theorem tw11269797145132854820:True:=⟨⟩
theorem tw5300281098538016101:True:=⟨⟩
theorem tw975194224402405616:True:=⟨⟩
theorem tw15909256970467748274:True:=⟨⟩
theorem tw492423702430145015:True:=⟨⟩
theorem tw16701132953792498196:True:=⟨⟩
theorem tw17030340016358366581:True:=⟨⟩
theorem tw15312424003106966852:True:=⟨⟩
theorem tw2155353343778329473:True:=⟨⟩
theorem tw17631859680120762224:True:=⟨⟩
theorem tw1775286075830891191:True:=⟨⟩
theorem tw821228460873937651:True:=⟨⟩
theorem tw17267887676441844153:True:=⟨⟩
theorem tw4267507536820355813:True:=⟨⟩
theorem tw4822938973996527319:True:=⟨⟩
theorem tw15731685332739574617:True:=⟨⟩
theorem tw2076550715513292909:True:=⟨⟩
theorem tw12303709834006383179:True:=⟨⟩
theorem tw14821060839104216950:True:=⟨⟩
theorem tw7905658994918962254:True:=⟨⟩
theorem tw8331420165248142937:True:=⟨⟩
theorem tw12506769847346592885:True:=⟨⟩
theorem tw8469004133543653679:True:=⟨⟩
theorem tw12232839797253179209:True:=⟨⟩
theorem tw12710461371696510541:True:=⟨⟩
theorem tw824155841182723492:True:=⟨⟩
theorem tw17608925366806103721:True:=⟨⟩
theorem tw5999706217663557936:True:=⟨⟩
theorem tw15270155480167547783:True:=⟨⟩
theorem tw15201431530290657499:True:=⟨⟩
theorem tw3821290223571238829:True:=⟨⟩
theorem tw11153271308342809011:True:=⟨⟩
theorem tw5336557137759364784:True:=⟨⟩
theorem tw3860334552511076057:True:=⟨⟩
theorem tw15722431000310095821:True:=⟨⟩
theorem tw77686162322802090:True:=⟨⟩
theorem tw16114860874200299671:True:=⟨⟩
theorem tw2841782521934437394:True:=⟨⟩
theorem tw2101216172328472973:True:=⟨⟩
theorem tw17632059248727991163:True:=⟨⟩
theorem tw17076379137409374900:True:=⟨⟩
theorem tw5455359386492746626:True:=⟨⟩
theorem tw394787837930044644:True:=⟨⟩
theorem tw9816754189741784537:True:=⟨⟩
theorem tw7455317010054286600:True:=⟨⟩
theorem tw1742993391439525425:True:=⟨⟩
theorem tw5578278122777197676:True:=⟨⟩
theorem tw781957870427078900:True:=⟨⟩
theorem tw1869811037912715977:True:=⟨⟩
theorem tw2744156910880344529:True:=⟨⟩
theorem tw15083437124281752840:True:=⟨⟩
theorem tw8436516372719640187:True:=⟨⟩
theorem tw17164925479532067025:True:=⟨⟩
theorem tw17227491692405948190:True:=⟨⟩
theorem tw8120981085218312506:True:=⟨⟩
theorem tw2465398938123308856:True:=⟨⟩
theorem tw10734158403814653116:True:=⟨⟩
theorem tw8432473918895027588:True:=⟨⟩
theorem tw3167151228946511759:True:=⟨⟩
theorem tw3042768014755006205:True:=⟨⟩
theorem tw7233244632791207725:True:=⟨⟩
theorem tw638206734821844289:True:=⟨⟩
theorem tw11406370596830720591:True:=⟨⟩
theorem tw15795802208483887422:True:=⟨⟩
theorem tw13615454311514718986:True:=⟨⟩
theorem tw1625044785733155155:True:=⟨⟩
theorem tw8954050072572475179:True:=⟨⟩
theorem tw15448778452449811402:True:=⟨⟩
theorem tw14964775073309794354:True:=⟨⟩
theorem tw5895952253618726768:True:=⟨⟩
theorem tw8997967734982088749:True:=⟨⟩
theorem tw14447632061688809797:True:=⟨⟩
theorem tw12647769369654200279:True:=⟨⟩
theorem tw11660385786637490218:True:=⟨⟩
theorem tw8794331866797827588:True:=⟨⟩
theorem tw16387319695287770188:True:=⟨⟩
theorem tw10029204634446844303:True:=⟨⟩
theorem tw18096706708586284591:True:=⟨⟩
theorem tw10135636728075442619:True:=⟨⟩
theorem tw10111912333205068954:True:=⟨⟩
theorem tw5361683446846304784:True:=⟨⟩
theorem tw12279905532064354362:True:=⟨⟩
theorem tw11057850758557618177:True:=⟨⟩
theorem tw8201462828145045578:True:=⟨⟩
theorem tw3421124756037131087:True:=⟨⟩
theorem tw15986100694152612682:True:=⟨⟩
theorem tw4829165886652067770:True:=⟨⟩
theorem tw14701452750208158057:True:=⟨⟩
theorem tw12649752638565714013:True:=⟨⟩
theorem tw14099661464638238798:True:=⟨⟩
theorem tw9806817596677836871:True:=⟨⟩
theorem tw432468860415082212:True:=⟨⟩
theorem tw7820496464872680865:True:=⟨⟩
theorem tw5317404632115633177:True:=⟨⟩
theorem tw5864209983523454572:True:=⟨⟩
theorem tw12387479886266954566:True:=⟨⟩
theorem tw16818528385401894187:True:=⟨⟩
theorem tw719031184854045791:True:=⟨⟩
theorem tw4232319427825808839:True:=⟨⟩
theorem tw4937734221817685003:True:=⟨⟩
theorem tw15161185207307132332:True:=⟨⟩
end PySem.W.Fast
set_option maxRecDepth 100000 in
set_option maxHeartbeats 0 in
theorem PySem.Challenge.cw_apart_k56_whole_cells_beside_holds : PySem.Challenge.rw_apart_k56_whole_cells_beside.Holds := by
 w_on; o_law; k_head; (case hw => w_witness2)
 k_fill
 refine K56.walk (l := PySem.Challenge.rw_apart_k56_whole_cells_beside) rfl rfl (fun w h Y => PySem.W.kIn_of Y) ?F
 case F =>
   intro w mg fa h KX G hmg
   refine' K56.all_mk KX G hmg ..
   all_goals first
     | (refine' L2.fun_mk ?l ?c ?k; (case l => k_is); (case c => k_is); (case k => k_is))
     | k_is
     | rfl
     | decide
     | decide +kernel
     | exact ⟨⟨_, _, rfl, rfl⟩, ⟨_, _, rfl, rfl⟩, ⟨_, _, rfl, rfl⟩, ⟨_, _, rfl, rfl⟩, ⟨_, _, rfl, rfl⟩, trivial⟩
     | exact ⟨⟨_, _, rfl, rfl⟩, ⟨_, _, rfl, rfl⟩, ⟨_, _, rfl, rfl⟩, trivial⟩
     | exact K56.rel_find (.cons ⟨_, _, _, rfl, rfl⟩ (.cons ⟨_, _, _, rfl, rfl⟩ (.cons ⟨_, _, _, rfl, rfl⟩ (.cons ⟨_, _, _, rfl, rfl⟩ (.cons ⟨_, _, _, rfl, rfl⟩ .nil)))))
     | exact K56.rel_find (.cons ⟨_, _, _, rfl, ⟨_, rfl⟩⟩ (.cons ⟨_, _, _, rfl, ⟨_, rfl⟩⟩ (.cons ⟨_, _, _, rfl, ⟨_, rfl⟩⟩ .nil)))
     | (repeat (first | exact .nil | refine .cons ⟨_, rfl⟩ ?_)
        done)
     | skip
