import PyProof.Rows.All
import Wide.All
import OpenK.AllK
import Wide.FinOn
import Lean
import PyProof.EqAt
import PyProof.EqKinds
import PyProof.TupleCall
import PySem.Challenge.RW_apart_k55_machines_keep_their_own
set_option maxHeartbeats 16000000
set_option Elab.async false
set_option linter.all false
set_option bootstrap.genMatcherCode false
set_option compiler.extract_closed false
set_option maxRecDepth 100000
set_option autoImplicit true
noncomputable section
open PySem renaming wpAny_bind->Aa,wpAny_pure->Ae,Spec->AL,wpAny_holding->AU,wpAny_newObj_type->AX,wpAny_loadPart'->Bl,wpAny_seqItems->Bm,wpAny_callSpecial?_slot->Bn,wpAny_field->Bo,wpAny_call_entry->Bp,wpAny_setField_rec->Bq,codeAny_builtin->Bw,plainId_quiet->BC,mem_of_lookup->BL,wpAny_mono->BM,wpAny_truthy_bool->BN,builtinLookup_eq_fast->Cd,wpAny_rule->Cp,lookup_relabel_local->Cv,wpAny_pyIter_list->C5,boot_len->CD,wpAny_typeOf->CJ,wpAny_passesOwn->CO,typeLookup_type->CP,wpAny_attempt->CV,wpAny_tryCatch->Df,wpAny_Call_Name_kw->Dx,wpAny_letGo->DA,wpAny_typeNameOfWhole_keyiter->DB,wpAny_setState_of->DE,codeAny_mono->DK,call_meetsIn->DL,codeAny_call_builtin->DS,wpAny_isInstance->DT,wpAny_updateSeq_pair->DX,wpAny_updateSeq->Eb,wpAny_pyIter_tuple->Ee,wpAny_getItem_list_slice->Eg,tupleKind_room_in1->El,wpAny_typeNameOf_keyiter->En,isSubtype_type->Et,slot_list_getitem->EC,wpAny_pyNext_list_item->EH,wpAny_of_eq->EJ,wpAny_standAt->EM,wpAny_onRaise->EO,wpAny_pyNext_list_end->ET,wpAny_isOneOf_keyiter->EV,wpAny_notOrdered_dict->EW,wpAny_execs_nil->Fb,wpAny_setEntries_of->Fn,wpAny_raiseNew_none->Fo,wpAny_fieldsOf->Fv,isSubtype_stop->Fw,wpAny_setField->Fx,wpAny_richCompare_same_room->FI,evalPart_none->FP,wpAny_assign_Name->FU,fits_of_scanBound->FV,wpAny_pyIter_slot->FW,wpAny_setEpoch_of->FY,strKind_is->Gb,noFill_tuple_add->Gh,wpAny_comprehension_free->Gj,wpAny_askSetting->Gn,wpAny_pyIter_zip->Gv,wpAny_specialOf->Hj,wpAny_pyNext_range_end->Ho,wpAny_pyIter_rangeiter->Hq,sizeLine_eq->Hr,wpAny_Call_method_late->Hu,codeAny_compStart_list->Hv,wpAny_nextOf_list_item->HJ,wpAny_isTrue_Compare1->HK,entryFor_alias->HR,wpAny_newTuple->HZ,wpAny_call->Ig,typeIs_str->Ih,call_meets->Ij,wpAny_newFunctionEnv->Ik,seq_tuple_add->Ir,evalPart_some->Iu,wpAny_dictSet_pairs->IE,Within->IH,wpAny_pyIter_range->II,concat_meets->IQ,seqIndex_neg->IS,putSet_of->IU,wpAny_sequenceKey->Jb,wpAny_storeSet_of->Je,wpAny_Call_method->Ji,wpAny_dictEntries->Jj,wpAny_Slice->Jm,seqIndex_of->Jn,wpAny_execs_cons->Jp,wpAny_getItem_of->Js,kt_code_dict_new->Jv,wpAny_Name->J0,wpAny_load->J8,call->JA,Builtin->JR
open PySem.W renaming Frag->Ab,nsIn->AM,findIn->AR,mg_none_of->AW,emptyDict->BX,keepIn->Cs,instObj->Cu,fnOf->CI,plainGet->Dg,mg_of->Dt,hasDictIn->DC,isFn->DJ,plainOver->E9,makesIn->Fc,plainGet_of->Fm,lookIn->Fs,callWith_K->FA,methodObj->FT,takerIn->Hh,OpenLaw->Hi,KeysLit->Hk,cellsFrom_some->Hs,methodCall_KW->HM,codeIn->HP,handedIn->Jq,mapOf_K->JC,WalkO->JQ
open PySem.Heap renaming get?_push_of_some->Ac,get?_push_size->An,lt_size->Ar,size_push->Br,get?_update_other->By,get?_update_self->B9,SameBut->Cn,get?_none_of_le->EZ,ExtBut->Hw,get?_update_ne->ID,IsTuple->IZ,IsList->Jo,size_update->Jt
open List renaming length_map->Ad,getElem?_eq_getElem->Af,mem_cons_self->Ag,mem_cons->Ah,length_append->Ai,mem_cons_of_mem->Al,getElem?_map->Am,size_toArray->Ao,mem_singleton->Ap,mem_append->Aq,map_cons->As,not_mem_nil->Av,map_append->Ax,getElem?_eq_some_iff->Az,mem_map->AA,length_cons->AB,mem_append_left->AD,mem_of_getElem?->AE,mem_append_right->AG,length_take->AQ,length_drop->Bb,nodup_cons->Bc,length_singleton->Be,take_of_length_le->Bi,mem_flatMap->Bu,getElem?_eq_none->Bx,eq_nil_of_length_eq_zero->B8,map_map->BA,flatMap_singleton->BF,find?_cons->BJ,take_length->BK,length_filter_le->BP,mem_of_mem_take->BS,take_add_one->BY,map_congr_left->BZ,flatMap_append->Ca,range->Cb,lookup_cons->Cf,reverse_cons->Cj,mem_map_of_mem->Cm,getD_eq_getElem?_getD->Cq,sum_cons->Cr,getElem?_toArray->Ct,mem_of_mem_drop->C0,flatMap_cons->C8,getElem_mem->CB,zip_cons_cons->CN,map_id->CZ,take_zero->Da,mem_range->Dc,drop_zero->De,getElem?_take_of_lt->Dh,all_eq_true->Dj,filterMap_cons->Dk,length_reverse->Dm,length_pos_iff->Do,any_cons->Ds,mem_filter->Du,append_nil->Dw,forIn_cons->Dz,append_assoc->DF,forIn_nil->DN,dropLast_concat_getLast->DP,getElem?_concat_length->DQ,getElem?_of_mem->DU,lookup->DY,length_zip->Ec,getElem?_zip_eq_some->Ed,filter_append->Ek,getElem?_cons_succ->Ex,filter_cons_of_pos->Ey,filter_cons_of_neg->Ez,pairwise_singleton->E8,take_sublist->EB,nodup_append->ED,length_range->EE,filter_cons->ER,cons_ne_nil->ES,of_mem_zip->Fd,dropLast_concat->Fj,getElem_of_mem->Fp,nodup_nil->Ft,getElem?_append_right->FL,length_eraseIdx_of_lt->FQ,map_take->FS,getElem?_append_left->FZ,drop_eq_getElem_cons->Gg,any_eq_true->Gm,zipIdx_cons->Gu,filterMap_cons_none->GJ,filterMap_cons_some->GQ,zipIdx_nil->Hl,length_nil->Hm,getElem?_set_self->Hn,length->Ht,drop_eq_nil_of_le->HE,length_replicate->HN,singleton_append->HS,take_append_drop->Ib,getElem?_set_ne->Ie,map_drop->Iw,mem_filterMap->IJ,filterMap_map->IR,ext_getElem?->Jg,getElem?_inj->Jk,drop_length->Jx,length_set->J9,filter_nil->JD,filter_map->JE,sum_append->JI,replicate->JJ,take_succ->JK,all_cons->JP,map_nil->JU
open Nat renaming le_refl->Aj,le_trans->Aw,ne_of_lt->AC,zero_le->AH,lt_of_lt_of_le->AK,lt_of_le_of_lt->Ba,le_succ->Bs,lt_irrefl->Bz,le_add_right->BE,le_of_lt->BG,ne_of_gt->BV,lt_succ_self->Ce,lt_succ_of_lt->C6,min_eq_left->CS,add_le_add_left->Dl,mod_lt->Ff,sub_zero->Fh,add_sub_cancel->FH,le_of_not_lt->Gi,min_eq_right->Gs,min_self->Gx,succ_le_succ->Gy,add_le_add_right->Il,le_of_eq->IL,eq_zero_or_pos->IW,mod_eq_of_lt->Jy,not_lt_zero->JH,add_le_add->JL,add_zero->JW,lt_or_ge->JX,zero_add->JY
open Bool renaming false_ne_true->Ak,false_eq_true->B0,and_eq_true->BR,eq_iff_iff->Ck,false_and->Fq,or_false->JO,true_and->JS
open Option.some renaming inj->Au
open PySem.Paired renaming length->Ay,snoc->Ke
open PySem.F renaming plainAttrs_list->AF,slot_list_append->Bg,type_list_append->Bh,plainAttrs_dict->BQ,slot_zip_next->Cc,slot_list_extend->Cw,type_list_extend->Cz,slot_dict_clear->C9,plain_max_loop->CG,slot_dict_get->CQ,slot_tuple_iterator_next->CW,type_dict_clear->Dr,args_zip_next_1->DH,entry_zip_next->DW,args_tuple_add_2->Ef,slot_tuple_index->Er,entry_tuple_add->Ew,slot_dict_keyiterator_next->EF,slot_tuple_add->EI,entry_dict_get->EK,slot_list_pop->EX,type_list_pop->EY,args_tuple_iterator_next_1->F0,entry_tuple_iterator_next->FG,plain_extend_loop->Gc,slot_dict_getitem->Ge,entry_max_loop->Gw,plainAttrs_tuple->Gz,type_tuple_index->G0,plain_list_iadd->Hb,args_dict_get_3->Hc,slot_list_clear->Hf,type_list_clear->Hg,slot_dict_iter->Hx,plainAttrs_str->HG,slot_str_index->HH,type_str_index->HI,plain_set_new->HQ,slot_set_iter->HU,type_dict_get->HV,slot_dict_pop->HW,kt_typeCall_dict_1->Im,args_object_init_3->Io,slot_list_ne->Ip,slot_list_eq->Iq,args_dict_init_2->IY,entry_dict_init->Jl,kt_called_dict->Ju,typeCall_zip_2->Jw,newCall_zip_2->JF,entry_zip_new->JG
open PySem.PassesOwn renaming never->AN
open Ne renaming symm->AO
open PySem.Builtin.SmallTypes renaming ownedTupleIsFree->AS,nextOf->Bd,ownedTupleHandOut->Cg
open List.Nodup renaming length_le_of_subset->AV
open PySem.Around renaming under_plainId->AY,under->IM
open Option renaming map_eq_some_iff->AZ,getD_some->Gk,bind_eq_some_iff->He,isSome_map->Jh,getD_none->Jr
open PySem.Str renaming ofString->Bf,length->Ga,cps_append->Ic,empty->JN
open Array renaming length_toList->Bj,getElem?_toList->BO,eq_empty_of_size_eq_zero->Fg,getElem?_eq_getElem->Gf,find?_toList->IK,forIn_toList->Ja,toList_push->Jd,toList->JT
open PyProof.Rows renaming boot_list->Bt,callWith_type1->BH,slot_tuple_getitem->BI,boot_dict->BW,boot_int->CU,sortedS->DV,boot_sorted->Eo,boot_tuple->E7,boot_set->HY
open Int renaming toNat_natCast->Bv,emod_lt_of_pos->B7,emod_nonneg->BD,toNat->Dy,ne_of_gt->Ep,zero_add->Fk,le_trans->Fl,fdiv_eq_ediv_of_nonneg->FK
open PySem.Value renaming isStrOf->BU,isStrOf_shape->Iy,isInt->JZ
open PySem.Builtin.Range renaming rangeSize->Ci,rangeFitsLong->FE,small->IB
open False renaming elim->Co
open PySem.PyData renaming canLayAll0->C7,depthAll->CT,canLay0->DO,depth->Fi
open PySem.Heap.SameBut renaming update->CA,refl->Jc
open PySem.SetTable renaming grown->CC,below->Fu
open PySem.Calls renaming callWith_builtin->CH,spliced_cons->Dv,evalArgs_plain->DR,spliced_nil->EA,Name_function_global->FJ
open PyProof.Rows.F renaming plain_set_update_loop->CK,entry_set_update_loop->Ej
open PySem.Obj renaming data_mapFields->CL,isFreed_of_fields->DM,mapSeq->Es,cls_mapFields->EG,putSet->Fe,mapFields->FR
open PySem.Builtin.Slice renaming slicePlaces->CY,sliceAdjust->DZ,sliceApplied->FM
open PySem.Builtin.Tuple renaming tupleExact->Di,tupleItemsOf->FO
open PySem.Builtin.Dict renaming updateFrom->Dq,selfAndRest->Gr,pairItems->Hy,showsAll->HX
open PySem.SeqAt.EqAt renaming same->Ea,str_str->Eh,int_str->IF,str_int->IG,int_int->IT
open PySem.Builtin.List renaming listTooLong->Ei,listExtendWith->FD,listSameRef->Gq
open List.Perm renaming refl->Eu
open Sum.inr renaming inj->EL
open PySem.Shared renaming TypeIs->EN,heap->HF
open Iff renaming rfl->EU
open PySem.Builtin renaming divisionGoesByPylong->Fy
open PySem.Manifest renaming find?->Fz
open PySem.Heap.IsSliceOf renaming new->FB
open PySem.Builtin.Frozenset renaming sizeOf->Gp
open PySem.AutoSeq1 renaming sub_list_list->Hz
open PySem.SeqAt renaming EqAt->Ii,eqAt_reads->Jz,eqv_refl->JM
open List.cons renaming inj->Iv
open PySem.Code renaming isFrame->IP,frames->Kd
open PySem.pickOrder renaming go->IV
open PySem.Heap.IsList renaming typeIs->IX
open PySem.SetTable.below renaming go->Jf
open PySem.Walks renaming list->JB,range->Kb
open PySem.Txt renaming find->JV
open PySem.IsRange renaming new->Kc
open Sum.inl renaming inj->Kf
open Prod.mk renaming inj->Kg
open PySem renaming Addr->KA,Value->KB,wpAny->KC,starEach->KD,model->KE,sizeLine->KF,Shared->KG,mainGlobals->KH,Paired->KI,assignEach->KJ,compareOp->KL,foldedSetIterable->KM,Stmt->KN,keywordEach->KO,backTo->KP,attributeBase->KQ,IsPair->KR,relabel->KS,Heap->KU,sysModules->KW,World->KY,Program->KZ,pyNext->Kh,binaryOp->Ki,backToKw->Kj,behindInMarks->Kk,sliceBounds->Kl,codeAny->Km,swapsWith->Kn,rawInt->Ko,strKind->Kp,Around->Kq,FuncData->Kr
noncomputable section
local macro_rules | `(tactic| decide) => `(tactic| decide +kernel)
open PySem PySem.Spec
namespace L2
open PyProof.Rows
theorem ta0_(h:True:=by first|exact .inl rfl|exact .inr rfl|assumption):True:=⟨⟩
def a0_:=ta0_._auto_1
theorem ta1_(h:True:=by decide):True:=⟨⟩
def a1_:=ta1_._auto_1
theorem ta2_(h:True:=by intro _;rfl):True:=⟨⟩
def a2_:=ta2_._auto_1
theorem ta3_(h:True:=by rfl):True:=⟨⟩
def a3_:=ta3_._auto_1
theorem ta4_(h:True:=by with_unfolding_all rfl):True:=⟨⟩
def a4_:=ta4_._auto_1
theorem ta5_(h:True:=by first|exact Or.inl rfl|exact Or.inr (Or.inl rfl)|exact Or.inr (Or.inr rfl)):True:=⟨⟩
def a5_:=ta5_._auto_1
theorem ta6_(h:True:=by exact .inl rfl):True:=⟨⟩
def a6_:=ta6_._auto_1
theorem ta7_(h:True:=by exact fun _ _=>rfl):True:=⟨⟩
def a7_:=ta7_._auto_1
theorem ta8_(h:True:=by exact⟨rfl,rfl,rfl,by decide,rfl,by decide,by decide⟩):True:=⟨⟩
def a8_:=ta8_._auto_1
theorem ta9_(h:True:=by exact⟨rfl,rfl,rfl,rfl⟩):True:=⟨⟩
def a9_:=ta9_._auto_1
theorem ta10_(h:True:=by repeat' first|with_unfolding_all rfl|constructor):True:=⟨⟩
def a10_:=ta10_._auto_1
theorem ta11_(h:True:=by exact fun _ _ _ _ _ _ _=>rfl):True:=⟨⟩
def a11_:=ta11_._auto_1
abbrev Key:=Sum Int Str
noncomputable def xk:Key->KB->Bool
 | .inl k,v=>JZ k v
 | .inr x,v=>BU x v
noncomputable def keyH(w:KY):Key->Int
 | .inl k=>hashInt k
 | .inr x=>hashStr w x
theorem ju:∀{k:Key}{v:KB},xk k v=true->(∃i t,k=Sum.inl i/\v=Value.int i t)\/(∃x t,k=Sum.inr x/\v=Value.str x t)
 | .inl i,v,h=>by
  obtain⟨t,e⟩:=Value.isInt_shape (k:=i) (v:=v) h;exact .inl ⟨i,t,rfl,e⟩
 | .inr x,v,h=>by
  obtain⟨t,e⟩:=Iy (x:=x) (v:=v) h;exact .inr ⟨x,t,rfl,e⟩
theorem a7f(i:Int)(t:Tok):xk (.inl i) (.int i t)=true:=by simp[xk,JZ]
theorem a8j(x:Str)(t:Tok):xk (.inr x) (.str x t)=true:=by simp[xk,BU]
theorem afj(a b:Int):decide ((Sum.inl a:Key)=Sum.inl b)=(a==b):=by grind
theorem aek(a b:Str):decide ((Sum.inr a:Key)=Sum.inr b)=decide (a=b):=by grind
theorem aes(a:Int)(b:Str):decide ((Sum.inl a:Key)=Sum.inr b)=false:=decide_eq_false (fun q=>nomatch q)
theorem ae0(a:Str)(b:Int):decide ((Sum.inr a:Key)=Sum.inl b)=false:=decide_eq_false (fun q=>nomatch q)
noncomputable def jj(prog:KZ)(w:KY):PySem.KeyKind prog w Key where
 is:=xk
 hash:=keyH w
 inj:=fun v a b ha hb=>by
  rcases ju ha with⟨i,t,rfl,rfl⟩|⟨x,t,rfl,rfl⟩
  . rcases ju hb with⟨j,u,rfl,e⟩|⟨y,u,rfl,e⟩
    . injection e with e1 _;rw[e1]
    . exact nomatch e
  . rcases ju hb with⟨j,u,rfl,e⟩|⟨y,u,rfl,e⟩
    . exact nomatch e
    . injection e with e1 _;rw[e1]
 byValue:=fun k v h=>by
  rcases ju h with⟨i,t,rfl,rfl⟩|⟨x,t,rfl,rfl⟩<;>rfl
 pyHash:=fun hv h=>by
  rcases ju hv with⟨i,t,rfl,rfl⟩|⟨x,t,rfl,rfl⟩
  . exact wpAny_pyHash_int h
  . exact wpAny_pyHash_str h
 eqBool:=fun hu hv h=>by
  rcases ju hu with⟨i,t,rfl,rfl⟩|⟨x,t,rfl,rfl⟩
  . rcases ju hv with⟨j,u,rfl,rfl⟩|⟨y,u,rfl,rfl⟩
    . rw[afj] at h;exact wpAny_eqBool_int h
    . rw[aes] at h;exact IF i t y u _ _ _ _ h
  . rcases ju hv with⟨j,u,rfl,rfl⟩|⟨y,u,rfl,rfl⟩
    . rw[ae0] at h;exact IG x t j u _ _ _ _ h
    . rw[aek] at h;exact wpAny_eqBool_str h
 «strs» := fun k x t v h=>by
  rcases ju h with⟨i,u,rfl,e⟩|⟨y,u,rfl,e⟩
  . exact nomatch e
  . injection e with e1 _;subst e1;cases v<;>rfl
theorem a39(prog:KZ)(w:KY)(i:Int)(t:Tok):(jj prog w).is (.inl i) (.int i t)=true:=a7f i t
theorem a38(prog:KZ)(w:KY)(x:Str)(t:Tok):(jj prog w).is (.inr x) (.str x t)=true:=a8j x t
inductive V where
 | non|bl (b:Bool)|int (i:Int)|str (x:Str)|byt (b:Array UInt8)|flt (b:UInt64)|ref (a:KA)|ty (n:String)
 deriving DecidableEq
noncomputable def RelV:V->KB->Prop
 | .non,u=>u=Value.none
 | .bl b,u=>u=Value.bool b
 | .int i,u=>∃t,u=Value.int i t
 | .str x,u=>∃t,u=Value.str x t
 | .byt b,u=>∃t,u=Value.bytes b t
 | .flt b,u=>∃t,u=Value.float b t
 | .ref a,u=>u=Value.ref a
 | .ty n,u=>u=Value.type n
abbrev Vals:List V->List KB->Prop:=KI RelV
theorem Vals.length(r:Vals xs us):xs.length=us.length:=Ay r
theorem Vals.get:∀{xs:List V}{us:List KB}{i:Nat}{x:V},Vals xs us->xs[i]?=some x->∃u,us[i]?=some u/\RelV x u
 | _,_,_,_,.nil,e=>by simp at e
 | _,_,0,_,.cons r _,e=>by simp at e;subst e;exact⟨_,rfl,r⟩
 | _,_,i+1,x,.cons _ t,e=>by
  obtain⟨u,b,a⟩:=Vals.get (i:=i) (x:=x) t (by simpa using e);exact⟨u,by simpa using b,a⟩
theorem Vals.set{x:V}(r:RelV x u):∀{xs:List V}{us:List KB}(i:Nat),Vals xs us->Vals (xs.set i x) (us.set i u)
 | _,_,_,.nil=>.nil
 | _,_,0,.cons _ t=>.cons r t
 | _,_,i+1,.cons q t=>.cons q (Vals.set r i t)
theorem Vals.append:∀{xs ys:List V}{us ws:List KB},Vals xs us->Vals ys ws->Vals (xs++ys) (us++ws)
 | _,_,_,_,.nil,s=>s
 | _,_,_,_,.cons r t,s=>.cons r (Vals.append t s)
theorem Vals.take:∀{xs:List V}{us:List KB}(n:Nat),Vals xs us->Vals (xs.take n) (us.take n)
 | _,_,0,_=>.nil
 | _,_,_+1,.nil=>.nil
 | _,_,n+1,.cons r t=>.cons r (Vals.take n t)
theorem Vals.drop:∀{xs:List V}{us:List KB}(n:Nat),Vals xs us->Vals (xs.drop n) (us.drop n)
 | _,_,0,r=>r
 | _,_,_+1,.nil=>.nil
 | _,_,n+1,.cons _ t=>Vals.drop n t
noncomputable def RelO:Option V->Option KB->Prop
 | some v,some u=>RelV v u
 | none,none=>True
 | _,_=>False
noncomputable def KV{κ:Type}:List (κ×V)->List (κ×KB)->Prop:=KI fun (p:κ×V) (q:κ×KB)=>p.1=q.1/\RelV p.2 q.2
noncomputable def kV:Key->V
 | .inl i=>.int i
 | .inr x=>.str x
inductive HO where
 /-- a list -/
 | lst (xs:List V)
 /-- a tuple (never changes) -/
 | tup (xs:List V)
 /-- a dict whose keys are ints and texts;one whose keys are tuples of ints and texts (the empty one is both) -/
 | dK (kvs:List (Key×V))|dT (kvs:List (List Key×V))
 /-- a set of ints: its members,its size -/
 | set (S:Int->Bool)(n:Nat)
 /-- an instance of the class at C,its dict at dx,its attributes -/
 | ins (C dx:KA)(fs:List (Str×V))
 /-- the dict of the instance at x -/
 | own (x:KA)
 /-- the dict of an exception -/
 | xd (fs:List (Str×V))
 /-- a bound method,f of x -/
 | met (f x:KA)
 /-- a range object lo,lo+1,.. below hi -/
 | rng (lo hi:Int)
 /-- a thing that is known to the object (the script;a dict while a loop walks it): read,never written while it is so -/
 | frz (o:Obj)(u:HO)
 /-- a code object's table -/
 | tbl (ps:Array KB)
 /-- any other thing,by what is true of its one object (a def of one's own: SetO a S n:=HO.ext fun h=>..) -/
 | ext (φ:KU->Prop)
abbrev Hp:=KA->Option HO
noncomputable def upd(H:Hp)(a:KA)(o:HO):Hp:=fun b=>if b=a then some o else H b
theorem g8:upd H a o a=some o:=by unfold upd;rw[if_pos rfl]
theorem f6(h:b≠a):upd H a o b=H b:=by unfold upd;rw[if_neg h]
theorem afo{H:Hp}(h:H a=some o)(h':H b=some u)(d:o≠u):a≠b:=by grind
theorem gh{H:Hp}(h:H a=some o)(h':H b=none):a≠b:=by grind
section
variable(P:KZ)(w:KY) in
noncomputable def ObjOk(H:Hp)(h:KU)(a:KA):HO->Prop
 | .lst xs=>xs.length<=KF/\∃(its:List KB) (n:Nat),Vals xs its/\h.get? a=some {cls:=.type "list",data:=.seq its.toArray n}
 | .tup xs=>xs.length<=KF/\∃its:List KB,Vals xs its/\IsTup h a its.toArray
 | .dK kvs=>kvs.length<=KF/\(a==KW)=false/\∃vs,KV kvs vs/\h.DictOf (jj P w) a vs
 | .dT kvs=>kvs.length<=KF/\(a==KW)=false/\∃xs:List (List Key×KA×KB),
  KI (fun (p:List Key×V) (q:List Key×KA×KB)=>p.1=q.1/\H q.2.1=some (.tup (p.1.map kV))/\RelV p.2 q.2.2) kvs xs/\
  ∃o es ep,h.get? a=some o/\o.ExactDict/\o.data=.dict es ep/\es.toList=xs.map (entryOfKey (tupleKind (jj P w)))/\(xs.map (·.1)).Nodup
 | .set S n=>h.SetOf (intKind P w) a S n
 | .ins C dx fs=>H dx=some (.own a)/\fs.length<=1000/\dx≠a/\h.get? a=some (Cu C dx)/\
  ∃mA,h.Ns1 dx mA/\(∀f,RelO (fs.lookup f) (mA f))/\IH mA (fs.map (·.1))
 | .own _=>∃o,h.get? a=some o
 | .xd fs=>∃mA,h.Ns1 a mA/\∀f,RelO (fs.lookup f) (mA f)
 | .rng lo hi=>∃t u v,h.get? a=some {cls:=.type "range",data:=.fields #[.int lo t,.int hi u,.int 1 v]}
 | .frz o u=>h.get? a=some o/\ObjOk H h a u
 | .tbl ps=>h.get? a=some {cls:=.none,data:=.fields ps}
 | .met f x=>h.get? a=some (FT (.ref f) (.ref x))
 | .ext φ=>φ h/\(∃o,h.get? a=some o)/\∀h1 h2:KU,φ h1->(∀o,h1.get? a=some o->h2.get? a=some o)->φ h2
noncomputable def HOk(P:KZ)(w:KY)(H:Hp)(h:KU):Prop:=∀a o,H a=some o->ObjOk P w H h a o
end
section
theorem ObjOk.lt(x:ObjOk P w H h a o):a<h.objs.size:=by
 cases o with
 | lst xs=>obtain⟨_,_,_,_,e⟩:=x;exact Ar e
 | tup xs=>obtain⟨_,_,_,p⟩:=x;exact p.lt
 | dK kvs=>obtain⟨_,_,_,_,o,_,_,e,_⟩:=x;exact Ar e
 | dT kvs=>obtain⟨_,_,_,_,o,_,_,e,_⟩:=x;exact Ar e
 | set S n=>obtain⟨o,_,_,_,e,_⟩:=x;exact Ar e
 | ins C dx fs=>obtain⟨_,_,_,e,_⟩:=x;exact Ar e
 | own y=>obtain⟨_,e⟩:=x;exact Ar e
 | xd fs=>obtain⟨_,⟨_,_,_,e,_⟩,_⟩:=x;exact Ar e
 | rng lo hi=>obtain⟨_,_,_,e⟩:=x;exact Ar e
 | frz ob u=>obtain⟨e,_⟩:=x;exact Ar e
 | tbl ps=>exact Ar (show h.get? a=some _ from x)
 | met f y=>exact Ar (show h.get? a=some _ from x)
 | ext φ=>obtain⟨_,⟨_,e⟩,_⟩:=x;exact Ar e
variable{a:KA} in
theorem Paired.mapP{α β:Type}{F G:α->β->Prop}:∀{l₁:List α}{l₂:List β},KI F l₁ l₂->(∀a b,F a b->G a b)->KI G l₁ l₂
 | _,_,.nil,_=>.nil
 | _,_,.cons r t,f=>.cons (f _ _ r) (Paired.mapP t f)
theorem ObjOk.stay(x:ObjOk P w H h a o)(k:∀b u,(b=a\/H b=some (.own a))->h.get? b=some u->h'.get? b=some u)(j:∀b,H b=some (.own a)->H' b=some (.own a))(ht:∀b xs,H b=some (.tup xs)->H' b=some (.tup xs)):ObjOk P w H' h' a o:=by
 induction o with
 | lst xs=>obtain⟨z,its,n,r,e⟩:=x;exact⟨z,its,n,r,k _ _ (.inl rfl) e⟩
 | tup xs=>obtain⟨z,its,r,ob,e,c⟩:=x;exact⟨z,its,r,ob,k _ _ (.inl rfl) e,c⟩
 | dK kvs=>obtain⟨z,y,vs,r,ob,es,ep,e,c⟩:=x;exact⟨z,y,vs,r,ob,es,ep,k _ _ (.inl rfl) e,c⟩
 | dT kvs =>
  obtain⟨z,y,xs,r,ob,es,ep,e,c⟩:=x;exact⟨z,y,xs,Paired.mapP r fun p q z=>⟨z.1,ht _ _ z.2.1,z.2.2⟩,ob,es,ep,k _ _ (.inl rfl) e,c⟩
 | set S n=>obtain⟨ob,es,ep,t,e,c⟩:=x;exact⟨ob,es,ep,t,k _ _ (.inl rfl) e,c⟩
 | ins C dx fs =>
  obtain⟨d,z,ne,e,g,⟨od,es,ep,i,c⟩,r⟩:=x;exact⟨j _ d,z,ne,k _ _ (.inl rfl) e,g,⟨od,es,ep,k _ _ (.inr d) i,c⟩,r⟩
 | own y=>obtain⟨ob,e⟩:=x;exact⟨ob,k _ _ (.inl rfl) e⟩
 | xd fs=>obtain⟨g,⟨od,es,ep,e,c⟩,r⟩:=x;exact⟨g,⟨od,es,ep,k _ _ (.inl rfl) e,c⟩,r⟩
 | rng lo hi=>obtain⟨t,u,v,e⟩:=x;exact⟨t,u,v,k _ _ (.inl rfl) e⟩
 | frz ob u ih=>obtain⟨e,q⟩:=x;exact⟨k _ _ (.inl rfl) e,ih q⟩
 | tbl ps =>
  have e:h.get? a=some {cls:=.none,data:=.fields ps}:=x;show h'.get? a=some {cls:=.none,data:=.fields ps};exact k a _ (.inl rfl) e
 | met f y =>
  have e:h.get? a=some (FT (.ref f) (.ref y)):=x;show h'.get? a=some (FT (.ref f) (.ref y));exact k a _ (.inl rfl) e
 | ext φ=>obtain⟨p,⟨o,e⟩,st⟩:=x;exact⟨st _ _ p fun o q=>k _ _ (.inl rfl) q,⟨o,k _ _ (.inl rfl) e⟩,st⟩
theorem HOk.lt(x:HOk P w H h)(e:H a=some o):a<h.objs.size:=(x a o e).lt
theorem HOk.fresh(x:HOk P w H h)(e:h.objs.size<=a):H a=none:=by
 cases q:H a with
 | none=>rfl
 | some u=>exact absurd (AK (x.lt q) e) (Bz _)
theorem HOk.kept(x:HOk P w H h)(k:∀b u,h.get? b=some u->h'.get? b=some u):HOk P w H h':=fun a o e =>
 (x a o e).stay (fun b u _ q=>k b u q) (fun _ q=>q) fun _ _ q=>q
theorem HOk.laid(x:HOk P w H h)(k:∀b u,h.get? b=some u->h'.get? b=some u)(hp:h.objs.size<=a)(new:ObjOk P w (upd H a o) h' a o):HOk P w (upd H a o) h':=fun b u e=>by
 have hn:=x.fresh hp;by_cases hb:b=a
 . subst hb;rw[g8] at e;cases e;exact new
 . rw[f6 hb] at e;exact (x b u e).stay (fun c v _ q=>k c v q) (fun c q=>by rw[f6 (gh q hn)];exact q) fun c xs q=>by rw[f6 (gh q hn)];exact q
end
noncomputable def Rd(H:Hp)(a:KA)(u:HO):Prop:=H a=some u\/∃o,H a=some (.frz o u)
theorem Rd.ok(r:Rd H a u)(x:HOk P w H h):ObjOk P w H h a u:=by
 rcases r with r|⟨o,r⟩
 . exact x a u r
 . obtain⟨_,q⟩:=x a _ r;exact q
noncomputable def Mut:Option HO->Prop
 | some (.lst _)=>True
 | some (.dK _)=>True
 | some (.dT _)=>True
 | some (.set _ _)=>True
 | some (.ins _ _ _)=>True
 | some (.ext _)=>True
 | _=>False
theorem HOk.write{x:KA}(ok:HOk P w H h)(g:Mut (H x))(j:e=x\/H e=some (.own x))(k:∀b u,b≠e->h.get? b=some u->h'.get? b=some u)(i:∃u,h'.get? e=some u)(new:ObjOk P w (upd H x l) h' x l):HOk P w (upd H x l) h':=fun b u q=>by
 have d:∀c y,H c=some (.own y)->c≠x:=fun c y r z=>by subst z;rw[r] at g;exact g
 have f:∀c xs,H c=some (.tup xs)->c≠x:=fun c xs r z=>by subst z;rw[r] at g;exact g
 by_cases hb:b=x
 . subst hb;rw[g8] at q;cases q;exact new
 . rw[f6 hb] at q;by_cases a:b=e
   . have m:H b=some (.own x):=by
      rcases j with z|z
      . exact absurd (a.trans z) hb
      . rw[a];exact z
     rw[q] at m;cases m;obtain⟨v,n⟩:=i;exact⟨v,by rw[a];exact n⟩
   . refine (ok b u q).stay (fun c v hc r=>k c v ?_ r) (fun c r=>by rw[f6 (d c b r)];exact r) fun c xs r=>by rw[f6 (f c xs r)];exact r
     rcases hc with rfl|hc
     . exact a
     . rintro rfl;rcases j with z|z
       . exact d c b hc z
       . rw[hc] at z;cases z;exact hb rfl
structure Un(fs ex:List KA)(H H':Hp)(h h':KU):Prop where
 keep:∀b o,h.get? b=some o->H b=none->b∉fs->b∉ex->h'.get? b=some o
 slot:∀b o,h.get? b=some o->H b=none->b∈fs->b∉ex->∃sl,h'.get? b=some {o with slots:=sl}
 free:∀b o,h.get? b=some o->H b=none->b∉ex->H' b=none
 there:∀b o,h.get? b=some o->b∉ex->∃o',h'.get? b=some o'
 tups:∀b xs,H b=some (.tup xs)->H' b=some (.tup xs)
 frzs:∀b o u,H b=some (.frz o u)->H' b=some (.frz o u)
 tbls:∀b ps,H b=some (.tbl ps)->∃more,H' b=some (.tbl (ps++more))
theorem Un.any{fs:List KA}(u:Un fs ex H e h c)(q:h.get? b=some ob)(n:H b=none)(a:b∉ex):∃d,c.get? b=some {ob with slots:=d}:=by
 by_cases hb:b∈fs
 . exact u.slot b ob q n hb a
 . exact⟨ob.slots,u.keep b ob q n hb a⟩
theorem Un.kept{fs:List KA}(k:∀b u,h.get? b=some u->h'.get? b=some u):Un fs ex H H h h' :=
 ⟨fun b ob q _ _ _=>k b ob q,fun b ob q _ _ _=>⟨ob.slots,k b ob q⟩,fun _ _ _ n _=>n,fun b ob q _=>⟨ob,k b ob q⟩,fun _ _ q=>q,fun _ _ _ q=>q,fun _ ps q=>⟨#[],by rw[q];simp⟩⟩
theorem Un.refl{fs:List KA}:Un fs ex H H h h:=Un.kept fun _ _ q=>q
theorem Un.laid{fs:List KA}(k:∀b u,h.get? b=some u->h'.get? b=some u)(hp:h.objs.size<=a)(hn:H a=none):Un fs ex H (upd H a o) h h' where
 keep:=fun b u q _ _ _=>k b u q
 slot:=fun b u q _ _ _=>⟨u.slots,k b u q⟩
 free:=fun b u q n _=>by rw[f6 (AC (AK (Ar q) hp))];exact n
 there:=fun b u q _=>⟨u,k b u q⟩
 tups:=fun b xs q=>by rw[f6 (gh q hn)];exact q
 frzs:=fun b u xs q=>by rw[f6 (gh q hn)];exact q
 tbls:=fun b ps q=>⟨#[],by rw[f6 (gh q hn),q];simp⟩
theorem Un.write{fs:List KA}{x:KA}(c:Mut (H x))(g:e=x\/H e=some (.own x))(k:∀b u,b≠e->h.get? b=some u->h'.get? b=some u)(d:∃u,h'.get? e=some u):Un fs ex H (upd H x o) h h':=by
 have f:∀b,H b=none->b≠x:=fun b n z=>by subst z;rw[n] at c;exact c
 have hb:∀b,H b=none->b≠e:=fun b n z=>by
  subst z;rcases g with r|r
  . exact f b n r
  . rw[n] at r;cases r
 have hm:∀b u,H b=some u->¬ Mut (some u)->b≠x:=fun b u q nm z=>by subst z;rw[q] at c;exact nm c
 refine⟨fun b u q n _ _=>k b u (hb b n) q,fun b u q n _ _=>⟨u.slots,k b u (hb b n) q⟩,fun b u q n _=>by rw[f6 (f b n)];exact n,fun b u q _=>?_,
  fun b xs q=>by rw[f6 (hm b _ q fun z=>z)];exact q,fun b u xs q=>by rw[f6 (hm b _ q fun z=>z)];exact q,fun b ps q=>⟨#[],by rw[f6 (hm b _ q fun z=>z),q];simp⟩⟩
 by_cases a:b=e
 . subst a;exact d
 . exact⟨u,k b u a q⟩
noncomputable def trk(h:KU)(H:Hp):List KA:=(Cb h.objs.size).filter fun a=>(H a).isSome
noncomputable def hidT(h:KU)(H:Hp):KU:=PySem.W.hideAll h (trk h H)
theorem a6e(h:KU)(H:Hp):(hidT h H).objs.size=h.objs.size:=PySem.W.hideAll_size _ _
theorem a92(e:h.get? b=some o)(n:H b=none):(hidT h H).get? b=some o :=
 PySem.W.hideAll_get _ e fun hm=>by
  have q:(H b).isSome=true:=(Du.mp hm).2;rw[n] at q;simp at q
theorem ac0(e:(hidT h H).get? b=some o):h.get? b=some o/\H b=none:=by
 have a:h.get? b=some o:=PySem.W.of_hideAll (trk h H) e;refine⟨a,?_⟩;cases q:H b with
 | none=>rfl
 | some x =>
  have hm:b∈trk h H:=List.mem_filter.mpr ⟨List.mem_range.mpr (Ar a),by simp[q]⟩;have z:(hidT h H).get? b=none:=PySem.W.hideAll_none (trk h H) hm;rw[z] at e;cases e
noncomputable def adv(g h:KU)(L:KA):List (KA×Obj):=(Cb h.objs.size).filterMap fun a=>if a=L\/(g.get? a).isSome=true then none else (h.get? a).map fun o=>(a,o)
noncomputable def rest(g h:KU)(L d:KA):List (KA×Obj):=(adv g h L).filter fun p=>decide (p.1≠d)
structure Mod(K:Ab)(mg:Str->Option KB)(base:KU):Prop where
 kin:K.In base
 glob:base.Ns KH mg
 blt:∃mb,base.Ns builtinsNs mb/\∀x:Str,x≠"__name__" -> mb x=bootBuiltins x
 nolimit:base.NoLimit
set_option genInjectivity false in
structure Cx where
 prog:KZ
 w:KY
 K:Ab
 mg:Str->Option KB
 base:KU
 A:Kq
 N:List Str
 s₀:KG
 H₀:Hp
 env:Env
 outer:List Env
 stack:List Env
 ex:List KA
 fn:Str->Bool
 calm:Bool
 pn:List (KA×Obj)
 xe:KB->KG->Prop
noncomputable def frs(l:List Env):List KA:=l.filterMap (·.frame)
abbrev Cx.fs(X:Cx):List KA:=frs X.outer
noncomputable def Vis(sc:Scope)(x:Str):Prop:=sc.names.lookup x=some .local\/sc.names.lookup x=some .cell\/sc.names.lookup x=some .free
noncomputable def Loc(sc:Scope)(x:Str):Prop:=sc.names.lookup x=some .local\/sc.names.lookup x=some .cell
noncomputable def Look(env:Env)(h:KU)(m:Str->Option KB)(x:Str)(u:KB):Prop :=
 (env.kindOf x=some .local/\m x=some u)\/((env.kindOf x=some .cell\/env.kindOf x=some .free)/\∃c,env.cells.lookup x=some c/\h.IsCell c (some u))
structure Cx.Ok(X:Cx):Prop where
 mod:Mod X.K X.mg X.base
 kind:X.env.scope.kind=.function
 glob:X.env.globals=KH
 blt:X.env.builtins=builtinsNs
 above:X.s₀.heap.objs.size<=X.env.locals
 inj:∀x y c,X.env.cells.lookup x=some c->X.env.cells.lookup y=some c->x=y
 has:∀x,(X.env.kindOf x=some .cell\/X.env.kindOf x=some .free)->∃c,X.env.cells.lookup x=some c
 cab:∀x c,X.fn x=true->X.env.cells.lookup x=some c->X.s₀.heap.objs.size<=c
 hd:X.calm=true->X.A.handled=none
 frames:X.A.frames=some X.stack
 stk:X.stack=X.outer\/(X.stack=X.env::X.outer/\X.env.frame=some X.env.locals)
 exf:∀b∈X.ex,b≠X.env.locals/\∀x c,X.env.cells.lookup x=some c->c≠b
 bs:∀b o,X.base.get? b=some o->X.s₀.heap.get? b=some o/\X.H₀ b=none
 bsz:X.base.objs.size<=X.s₀.heap.objs.size
 noex:∀b o,X.base.get? b=some o->b∉X.ex
 exfs:∀b∈X.ex,b∉X.fs
 funs:X.s₀.heap.FunFrames X.base X.outer
 frf:∀b∈X.fs,X.H₀ b=none
structure Inv(X:Cx)(pins:List (KA×Obj))(σ:List (Option V))(H:Hp)(s:KG):Prop where
 ok:X.Ok
 os:s.os=X.s₀.os
 bare:AllBare s.gens
 base:Un X.fs X.ex X.H₀ H X.s₀.heap s.heap
 loc:∃m,s.heap.Ns X.env.locals m/\∀(i:Nat) (x:Str) (v:V),X.N[i]?=some x->σ[i]?=some (some v)->Vis X.env.scope x->∃u,RelV v u/\Look X.env s.heap m x u
 cell:∀x c,X.env.cells.lookup x=some c->∃v,s.heap.IsCell c v
 free:H X.env.locals=none
 freeC:∀x c,X.env.cells.lookup x=some c->H c=none
 pin:∀p∈X.pn++pins,s.heap.get? p.1=some p.2/\H p.1=none/\p.1≠X.env.locals/\p.1∉X.fs/\∀v,p.2.data≠.cell v
 hok:HOk X.prog X.w H s.heap
 len:σ.length=X.N.length
theorem Cx.Ok.nofr{X:Cx}(ok:X.Ok)(e:X.base.get? b=some o):b∉X.fs:=fun hb=>by
 have:=(ok.funs.mem hb).1;rw[e] at this;cases this
theorem Inv.bs(I:Inv X a σ H s):∀b o,X.base.get? b=some o->s.heap.get? b=some o/\H b=none:=fun b o e =>
 ⟨I.base.keep b o (I.ok.bs b o e).1 (I.ok.bs b o e).2 (I.ok.nofr e) (I.ok.noex b o e),I.base.free b o (I.ok.bs b o e).1 (I.ok.bs b o e).2 (I.ok.noex b o e)⟩
theorem Inv.bk(I:Inv X a σ H s):∀b o,X.base.get? b=some o->s.heap.get? b=some o:=fun b o e=>(I.bs b o e).1
theorem Inv.mod(I:Inv X a σ H s):Mod X.K X.mg X.base:=I.ok.mod
theorem Inv.kIn(I:Inv X a σ H s):X.K.In s.heap:=I.ok.mod.kin.keeps I.bk
theorem Inv.lt(I:Inv X a σ H s):X.env.locals<s.heap.objs.size:=let ⟨_,hn,_⟩:=I.loc;hn.lt
theorem Inv.sz(I:Inv X a σ H s):X.s₀.heap.objs.size<=s.heap.objs.size:=Aw I.ok.above (BG I.lt)
theorem Inv.nofs(I:Inv X b σ H s)(h:s.heap.objs.size<=a):a∉X.fs:=fun hb=>by
 obtain⟨_,o,c,_⟩:=I.ok.funs.mem hb;exact absurd (AK (Ar c) (Aw I.sz h)) (Bz _)
theorem Inv.cne(I:Inv X f σ H s):∀x c,X.env.cells.lookup x=some c->c≠X.env.locals:=fun x c e z=>by
 obtain⟨v,o,d,hd⟩:=I.cell x c e;obtain⟨m,⟨g,es,ep,a,b,_⟩,_⟩:=I.loc;rw[z,a] at d;cases d;rw[b] at hd;cases hd
theorem Inv.funs(I:Inv X d σ H s):s.heap.FunFrames X.base X.outer:=by
 have all:∀(l:List Env),(∀b∈frs l,b∈X.fs)->X.s₀.heap.FunFrames X.base l->s.heap.FunFrames X.base l:=by
  intro l;induction l with
  | nil=>intro _ _;trivial
  | cons env r ih =>
   intro hs hl;obtain⟨f,⟨L,o,a,hn,g,hd⟩,hr⟩:=hl;have c:L∈X.fs:=hs L (by unfold frs;rw[Dk,a];exact Ag);obtain⟨h,e⟩:=I.base.slot L o g (I.ok.frf L c) c fun z=>I.ok.exfs L z c;exact⟨f,⟨L,_,a,hn,e,hd⟩,ih (fun b hb=>hs b (by unfold frs;rw[Dk,a];exact Al _ hb)) hr⟩
 exact all X.outer (fun _ hb=>hb) I.ok.funs
theorem Inv.stack(I:Inv X a σ H s):s.heap.FunFrames X.base X.stack:=by
 rcases I.ok.stk with e|⟨e,b⟩
 . rw[e];exact I.funs
 . rw[e];obtain⟨m,hn,_⟩:=I.loc;refine .cons (by rw[I.ok.kind];decide) b hn ?_ I.funs;exact EZ (Aw I.ok.bsz I.ok.above)
theorem Inv.stkSub(I:Inv X a σ H s):∀b∈frs X.stack,b∈X.env.locals::X.fs:=fun b hb=>by
 rcases I.ok.stk with e|⟨e,c⟩
 . rw[e] at hb;exact Al _ hb
 . rw[e] at hb;unfold frs at hb;rw[Dk,c] at hb;exact hb
theorem Inv.stkFree(I:Inv X a σ H s):∀b∈frs X.stack,H b=none:=fun b hb=>by
 rcases Ah.mp (I.stkSub b hb) with e|hb
 . rw[e];exact I.free
 . obtain⟨_,o,c,_⟩:=I.ok.funs.mem hb;exact I.base.free b o c (I.ok.frf b hb) fun z=>I.ok.exfs b z hb
theorem Inv.step{ch:List KA}(I:Inv X A σ H s)(h:∀b∈ch,(b∈X.ex\/X.s₀.heap.objs.size<=b)/\b≠X.env.locals/\(∀x c,X.env.cells.lookup x=some c->c≠b)/\∀p∈X.pn++A,p.1≠b)(keep:∀b o,b≠X.env.locals->b∉X.fs->b∉ch->s.heap.get? b=some o->H b=none->h'.get? b=some o)(slot:∀b o,b≠X.env.locals->b∈X.fs->b∉ch->s.heap.get? b=some o->H b=none->∃J,h'.get? b=some {o with slots:=J})(free:∀b o,b∉ch->s.heap.get? b=some o->H b=none->H' b=none)(there:∀b o,b∉ch->s.heap.get? b=some o->∃E,h'.get? b=some E)(tups:∀b xs,H b=some (.tup xs)->H' b=some (.tup xs))(frzs:∀b o u,H b=some (.frz o u)->H' b=some (.frz o u))(tbls:∀b ps,H b=some (.tbl ps)->∃more,H' b=some (.tbl (ps++more)))(ns:∀m,s.heap.Ns X.env.locals m->h'.Ns X.env.locals m)(hok:HOk X.prog X.w H' h')(M:AllBare g'):
 Inv X A σ H' {s with heap:=h',gens:=g',drawn:=d',toks:=t'}:=by
 have F:∀b o,X.s₀.heap.get? b=some o->b≠X.env.locals:=fun b o e=>AC (AK (Ar e) I.ok.above);have y:∀b o,X.s₀.heap.get? b=some o->b∉X.ex->b∉ch:=fun b o e a hb=>by
  rcases (h b hb).1 with z|z
  . exact a z
  . exact absurd (AK (Ar e) z) (Bz _)
 have f:∀x c,X.env.cells.lookup x=some c->∀v,s.heap.IsCell c v->h'.IsCell c v:=fun x c e v ⟨o,C,hd⟩=>by
  have g:c∉ch:=fun z=>(h c z).2.2.1 x c e rfl;by_cases hc:c∈X.fs
  . obtain⟨J,q⟩:=slot c o (I.cne x c e) hc g C (I.freeC x c e);exact⟨_,q,hd⟩
  . exact⟨o,keep c o (I.cne x c e) hc g C (I.freeC x c e),hd⟩
 refine⟨I.ok,I.os,M,⟨fun b o e n hb a=>?_,fun b o e n hb a=>?_,fun b o e n a=>?_,fun b o e a=>?_,fun b xs e=>tups b xs (I.base.tups b xs e),fun b o xs e=>frzs b o xs (I.base.frzs b o xs e),fun b ps e=>?_⟩,?_,fun x c e=>?_,?_,fun x c e=>?_,fun p hp=>?_,hok,I.len⟩
 . exact keep b o (F b o e) hb (y b o e a) (I.base.keep b o e n hb a) (I.base.free b o e n a)
 . obtain⟨J,j⟩:=I.base.slot b o e n hb a;obtain⟨G,D⟩:=slot b _ (F b o e) hb (y b o e a) j (I.base.free b o e n a);exact⟨G,D⟩
 . obtain⟨E,j⟩:=I.base.there b o e a;exact free b E (y b o e a) j (I.base.free b o e n a)
 . obtain⟨E,j⟩:=I.base.there b o e a;exact there b E (y b o e a) j
 . obtain⟨m1,j⟩:=I.base.tbls b ps e;obtain⟨m2,D⟩:=tbls b _ j;exact⟨m1++m2,by rw[D,Array.append_assoc]⟩
 . obtain⟨m,hn,hl⟩:=I.loc;refine⟨m,ns m hn,fun i x v j D L=>?_⟩;obtain⟨u,r,l⟩:=hl i x v j D L;refine⟨u,r,?_⟩;rcases l with l|⟨k,c,e,z⟩
   . exact .inl l
   . exact .inr ⟨k,c,e,f x c e _ z⟩
 . obtain⟨v,z⟩:=I.cell x c e;exact⟨v,f x c e v z⟩
 . obtain⟨m,⟨o,_,_,C,_⟩,_⟩:=I.loc;exact free _ o (fun z=>(h _ z).2.1 rfl) C I.free
 . obtain⟨v,o,C,hd⟩:=I.cell x c e;exact free c o (fun z=>(h c z).2.2.1 x c e rfl) C (I.freeC x c e)
 . obtain⟨e,n,ne,nf,d⟩:=I.pin p hp;have g:p.1∉ch:=fun z=>(h p.1 z).2.2.2 p hp rfl;exact⟨keep p.1 p.2 ne nf g e n,free p.1 p.2 g e n,ne,nf,d⟩
theorem Inv.un(I:Inv X c σ H s)(u:Un X.fs [] H H' s.heap h')(hok:HOk X.prog X.w H' h'):Inv X c σ H' {s with heap:=h',toks:=t'}:=by
 obtain⟨m,⟨o,es,ep,g,r⟩,_⟩:=id I.loc;obtain⟨p,h⟩:=u.any g I.free (by simp);exact I.step (g':=s.gens) (d':=s.drawn) (ch:=[]) (fun _ z=>nomatch z) (fun b o _ hb _ e n=>u.keep b o e n hb (by simp)) (fun b o _ hb _ e n=>u.slot b o e n hb (by simp)) (fun b o _ e n=>u.free b o e n (by simp)) (fun b o _ e=>u.there b o e (by simp)) u.tups u.frzs u.tbls (fun j hm=>by
  obtain⟨l,f,d,a,i⟩:=hm;rw[g] at a;cases a;exact⟨_,f,d,h,i⟩) hok I.bare
theorem Inv.call(I:Inv X a σ H s)(u:Un (frs X.stack) ch H H' s.heap h')(hok:HOk X.prog X.w H' h')(q:AllBare g')(f:∀b∈ch,(b∈X.ex\/X.s₀.heap.objs.size<=b)/\b≠X.env.locals/\(∀x c,X.env.cells.lookup x=some c->c≠b)/\∀p∈X.pn++a,p.1≠b):
 Inv X a σ H' {s with heap:=h',gens:=g',drawn:=d',toks:=t'}:=by
 obtain⟨m,⟨o,es,ep,j,r⟩,_⟩:=id I.loc;obtain⟨A,h⟩:=u.any j I.free fun z=>(f _ z).2.1 rfl;exact I.step (ch:=ch) f (fun b o h hb hc e n=>u.keep b o e n (fun z=>(Ah.mp (I.stkSub b z)).elim h hb) hc) (fun b o _ _ hc e n=>u.any e n hc) (fun b o hc e n=>u.free b o e n hc) (fun b o hc e=>u.there b o e hc) u.tups u.frzs u.tbls (fun v hm=>by
  obtain⟨y,i,g,d,l⟩:=hm;rw[j] at d;cases d;exact⟨_,i,g,h,l⟩) hok q
theorem Inv.turned(I:Inv X a σ H s)(k:∀b o,b≠it->s.heap.get? b=some o->h'.get? b=some o)(hn:H it=none)(f:it≠X.env.locals)(j:it∈X.ex\/X.s₀.heap.objs.size<=it)(g:∀x c,X.env.cells.lookup x=some c->c≠it)(h:∀p∈X.pn++a,p.1≠it):Inv X a σ H {s with heap:=h',toks:=t'}:=by
 have d:∀b u,H b=some u->b≠it:=fun b u e z=>by rw[z,hn] at e;cases e
 refine I.step (g':=s.gens) (d':=s.drawn) (ch:=[it]) (fun b hb=>?_) (fun b o _ _ hc e _=>k b o (fun z=>hc (by simp[z])) e) (fun b o _ _ hc e _=>⟨o.slots,k b o (fun z=>hc (by simp[z])) e⟩) (fun _ _ _ _ n=>n)
  (fun b o hc e=>⟨o,k b o (fun z=>hc (by simp[z])) e⟩) (fun _ _ e=>e) (fun _ _ _ e=>e) (fun b ps e=>⟨#[],by rw[e];simp⟩) (fun m hm=>?_) (fun b u e=>?_) I.bare
 . have e:b=it:=by simpa using hb
   subst e;exact⟨j,f,g,h⟩
 . obtain⟨o,es,ep,i,r⟩:=hm;exact⟨o,es,ep,k _ o (AO f) i,r⟩
 . refine (I.hok b u e).stay (fun c v hc q=>k c v ?_ q) (fun _ q=>q) fun _ _ q=>q;rcases hc with z|z
   . rw[z];exact d b u e
   . exact d c _ z
theorem Inv.tok(I:Inv X a σ H s)(t:Nat):Inv X a σ H {s with toks:=t}:=I.un (h':=s.heap) (t':=t) Un.refl I.hok
theorem Inv.kept(I:Inv X a σ H s)(k:∀b u,s.heap.get? b=some u->h'.get? b=some u):Inv X a σ H {s with heap:=h',toks:=t'}:=I.un (Un.kept k) (I.hok.kept k)
theorem Inv.laid(I:Inv X c σ H s)(k:∀b u,s.heap.get? b=some u->h'.get? b=some u)(hp:s.heap.objs.size<=a)(new:ObjOk X.prog X.w (upd H a o) h' a o):
 Inv X c σ (upd H a o) {s with heap:=h',toks:=t'}:=I.un (Un.laid k hp (I.hok.fresh hp)) (I.hok.laid k hp new)
theorem Inv.write{x:KA}(I:Inv X a σ H s)(f:Mut (H x))(d:e=x\/H e=some (.own x))(k:∀b u,b≠e->s.heap.get? b=some u->h'.get? b=some u)(c:∃u,h'.get? e=some u)(new:ObjOk X.prog X.w (upd H x o) h' x o):Inv X a σ (upd H x o) {s with heap:=h',toks:=t'}:=I.un (Un.write f d k c) (I.hok.write f d k c new)
theorem Inv.pins_of(I:Inv X b σ H s)(h:∀p∈a,s.heap.get? p.1=some p.2/\H p.1=none/\p.1≠X.env.locals/\p.1∉X.fs/\∀v,p.2.data≠.cell v):Inv X a σ H s :=
 ⟨I.ok,I.os,I.bare,I.base,I.loc,I.cell,I.free,I.freeC,fun p hp=>(Aq.mp hp).elim (fun z=>I.pin p (AD _ z)) (h p),I.hok,I.len⟩
theorem a2i{N:List Str}(d:N.Nodup){j:Nat}{x:Str}(a:N[i]?=some x)(b:N[j]?=some x):i=j:=by
 obtain⟨g,e⟩:=Az.mp a;obtain⟨f,c⟩:=Az.mp b;exact (List.getElem_inj d).mp (e.trans c.symm)
theorem a0n{x:Str}(I:Inv X U σ H s)(hN:X.N.Nodup)(hi:X.N[i]?=some x)(l:Loc X.env.scope x)(r:RelV v u)(h:∀s',Inv X U (σ.set i (some v)) H s'->(∃a,Cn a s.heap s'.heap/\(a=X.env.locals\/X.env.cells.lookup x=some a))->Q () s')(hf:autoParam (X.fn x=true\/X.env.scope.names.lookup x=some .local) a0_):KC M A (storeName X.env x u) Q E s:=by
 obtain⟨m,hn,hl⟩:=id I.loc;have R:(X.env.scope.kind==.class || (X.env.scope.kind==.module && X.env.locals != X.env.globals))=false:=by rw[I.ok.kind];rfl
 have O:i<σ.length:=by rw[I.len];exact (Az.mp hi).1
 have cne:=I.cne;have f:∀{a:KA} {h':KU},(∃o,s.heap.get? a=some o/\H a=none)->Cn a s.heap h'->HOk X.prog X.w H h':=fun {a h'} ha hs b ob e=>by
  obtain⟨_,_,C⟩:=ha;refine (I.hok b ob e).stay (fun c Y hc q=>(hs.2 c ?_).trans q) (fun _ q=>q) fun _ _ q=>q;rintro rfl;rcases hc with rfl|hc
  . rw[C] at e;cases e
  . rw[C] at hc;cases hc
 rcases l with F|F
 . refine wpAny_storeName_local F hn (fun h' aa hs=>?_) R;obtain⟨oL,_,_,ab,_⟩:=id hn;refine h _ ⟨I.ok,I.os,I.bare,⟨fun b o e n hb l=>?_,fun b o e n hb l=>?_,I.base.free,fun b o e l=>?_,I.base.tups,I.base.frzs,I.base.tbls⟩,⟨_,aa,fun j y v' g D e3=>?_⟩,fun y c e=>?_,I.free,I.freeC,fun p hp=>?_,f ⟨oL,ab,I.free⟩ hs,by simpa using I.len⟩ ⟨_,hs,.inl rfl⟩
   . exact (hs.2 b (AC (AK (Ar e) I.ok.above))).trans (I.base.keep b o e n hb l)
   . obtain⟨sl,g⟩:=I.base.slot b o e n hb l;exact⟨sl,(hs.2 b (AC (AK (Ar e) I.ok.above))).trans g⟩
   . obtain⟨Z,g⟩:=I.base.there b o e l;exact⟨Z,(hs.2 b (AC (AK (Ar e) I.ok.above))).trans g⟩
   . by_cases J:j=i
     . subst J;rw[hi] at g;cases g;rw[Hn O] at D;cases D;exact⟨u,r,.inl ⟨F,by simp⟩⟩
     . rw[Ie (AO J)] at D;obtain⟨u',r',q⟩:=hl j y v' g D e3;refine⟨u',r',?_⟩;rcases q with⟨k,e⟩|⟨k,c,e,z⟩
       . refine .inl ⟨k,?_⟩;have:y≠x:=fun e=>J (a2i hN g (e ▸ hi));simp[this,e]
       . exact .inr ⟨k,c,e,z.sameBut hs (cne y c e)⟩
   . obtain⟨Y,z⟩:=I.cell y c e;exact⟨Y,z.sameBut hs (cne y c e)⟩
   . obtain⟨e,n,ne,nf,d⟩:=I.pin p hp;exact⟨(hs.2 p.1 ne).trans e,n,ne,nf,d⟩
 . have G:X.fn x=true:=by
    rcases hf with z|z
    . exact z
    . rw[z] at F;cases F
   obtain⟨c,hc⟩:=I.ok.has x (.inl F);obtain⟨Y,z⟩:=I.cell x c hc;refine wpAny_storeName_cell I.ok.kind F hc z (fun h' T hs=>?_);obtain⟨oc,S,L⟩:=id z;refine h {s with heap:=h'} ⟨I.ok,I.os,I.bare,⟨fun b o e n hb l=>?_,fun b o e n hb l=>?_,I.base.free,fun b o e l=>?_,I.base.tups,I.base.frzs,I.base.tbls⟩,⟨m,hn.sameBut hs (AO (cne x c hc)),fun j y v' g D e3=>?_⟩,fun y W e=>?_,I.free,I.freeC,fun p hp=>?_,f ⟨oc,S,I.freeC x c hc⟩ hs,by simpa using I.len⟩ ⟨c,hs,.inr hc⟩
   . exact (hs.2 b (AC (AK (Ar e) (I.ok.cab x c G hc)))).trans (I.base.keep b o e n hb l)
   . obtain⟨sl,g⟩:=I.base.slot b o e n hb l;exact⟨sl,(hs.2 b (AC (AK (Ar e) (I.ok.cab x c G hc)))).trans g⟩
   . obtain⟨Z,g⟩:=I.base.there b o e l;exact⟨Z,(hs.2 b (AC (AK (Ar e) (I.ok.cab x c G hc)))).trans g⟩
   . by_cases J:j=i
     . subst J;rw[hi] at g;cases g;rw[Hn O] at D;cases D;exact⟨u,r,.inr ⟨.inl F,c,hc,T⟩⟩
     . rw[Ie (AO J)] at D;obtain⟨u',r',q⟩:=hl j y v' g D e3;refine⟨u',r',?_⟩;rcases q with q|⟨k,W,e,z'⟩
       . exact .inl q
       . refine .inr ⟨k,W,e,z'.sameBut hs ?_⟩;rintro rfl;exact J (a2i hN g (I.ok.inj _ _ _ e hc ▸ hi))
   . by_cases P:W=c
     . subst P;exact⟨_,T⟩
     . obtain⟨w2,z2⟩:=I.cell y W e;exact⟨w2,z2.sameBut hs P⟩
   . obtain⟨e,n,ne,nf,d⟩:=I.pin p hp;refine⟨(hs.2 p.1 ?_).trans e,n,ne,nf,d⟩;intro q;rw[q,S] at e;have q':oc=p.2:=Au e;exact d Y (by rw[<- q'];exact L)
theorem yj{x:Str}(I:Inv X a σ H s)(d:X.N.Nodup)(hi:X.N[i]?=some x)(c:Loc X.env.scope x)(r:RelV v u)(h:∀s',Inv X a (σ.set i (some v)) H s'->Q () s')(b:autoParam (X.fn x=true\/X.env.scope.names.lookup x=some .local) a0_):KC M A (storeName X.env x u) Q E s :=
 a0n I d hi c r (fun s' e _=>h s' e) b
theorem Inv.call'(I:Inv X a σ H s)(h:s'.os=s.os)(u:Un (frs X.stack) ch H H' s.heap s'.heap)(hok:HOk X.prog X.w H' s'.heap)(f:AllBare s'.gens)(d:∀b∈ch,(b∈X.ex\/X.s₀.heap.objs.size<=b)/\b≠X.env.locals/\(∀x c,X.env.cells.lookup x=some c->c≠b)/\∀p∈X.pn++a,p.1≠b):Inv X a σ H' s':=by
 obtain⟨h',g',d',t',g⟩:=s';have e:g=s.os:=h;subst e;exact I.call (g':=g') (t':=t') (d':=d') u hok f d
abbrev XK:=KB->Option KA->Hp->Prop
abbrev St:=List (Option V)
abbrev VK:=V->Hp->Prop
abbrev TE:=St->Hp->VK->Prop
abbrev TT:=St->Hp->(Bool->Hp->Prop)->Prop
abbrev TA:=St->Hp->(List V->Hp->Prop)->Prop
structure Ends where
 nx:St->Hp->Prop
 rt:VK
 bk:St->Hp->Prop:=fun _ _=>False
 ct:St->Hp->Prop:=fun _ _=>False
abbrev TS:=Ends->St->Hp->Prop
noncomputable def EP(X:Cx)(pins:List (KA×Obj))(σ:St)(Q:VK)(u:KB)(s':KG):Prop:=∃v H',Inv X pins σ H' s'/\RelV v u/\Q v H'
noncomputable def TP(X:Cx)(pins:List (KA×Obj))(σ:St)(Q:Bool->Hp->Prop)(b:Bool)(s':KG):Prop:=∃H',Inv X pins σ H' s'/\Q b H'
noncomputable def AP(X:Cx)(pins:List (KA×Obj))(σ:St)(Q:List V->Hp->Prop)(us:List KB)(s':KG):Prop:=∃vs H',Inv X pins σ H' s'/\Vals vs us/\Q vs H'
noncomputable def SP(X:Cx)(pins:List (KA×Obj))(D:Ends)(f:Flow)(s':KG):Prop :=
 match f with
 | .next=>∃σ' H',Inv X pins σ' H' s'/\D.nx σ' H'
 | .brk=>∃σ' H',Inv X pins σ' H' s'/\D.bk σ' H'
 | .cont=>∃σ' H',Inv X pins σ' H' s'/\D.ct σ' H'
 | .ret u=>∃v σ' H',Inv X pins σ' H' s'/\RelV v u/\D.rt v H'
noncomputable def PE(X:Cx)(e:Expr)(t:TE):Prop :=
 ∀(pins:List (KA×Obj)) (s:KG) (σ:St) (H:Hp) (Q:VK),Inv X pins σ H s->t σ H Q->KC (KE X.prog X.w) X.A (eval e X.env) (EP X pins σ Q) X.xe s
noncomputable def PT(X:Cx)(e:Expr)(t:TT):Prop :=
 ∀(pins:List (KA×Obj)) (s:KG) (σ:St) (H:Hp) (Q:Bool->Hp->Prop),Inv X pins σ H s->t σ H Q->KC (KE X.prog X.w) X.A (isTrue e X.env (eval e X.env)) (TP X pins σ Q) X.xe s
noncomputable def PW(X:Cx)(e:Expr)(t:TT):Prop :=
 ∀(whole:Sem KB) (pins:List (KA×Obj)) (s:KG) (σ:St) (H:Hp) (Q:Bool->Hp->Prop),Inv X pins σ H s->t σ H Q->KC (KE X.prog X.w) X.A (isTrue e X.env whole) (TP X pins σ Q) X.xe s
theorem PW.pt{t:TT}(h:PW X e t):PT X e t:=h _
noncomputable def PA(X:Cx)(es:List Expr)(t:TA):Prop :=
 ∀(pos:Pos) (pins:List (KA×Obj)) (s:KG) (σ:St) (H:Hp) (Q:List V->Hp->Prop),Inv X pins σ H s->t σ H Q->KC (KE X.prog X.w) X.A (spliced (KP pos (KD es X.env))) (AP X pins σ Q) X.xe s
noncomputable def PS(X:Cx)(st:KN)(t:TS):Prop :=
 ∀(pins:List (KA×Obj)) (s:KG) (σ:St) (H:Hp) (D:Ends),Inv X pins σ H s->t D σ H->KC (KE X.prog X.w) X.A (exec st X.env) (SP X pins D) X.xe s
noncomputable def PSs(X:Cx)(st:List KN)(t:TS):Prop :=
 ∀(pins:List (KA×Obj)) (s:KG) (σ:St) (H:Hp) (D:Ends),Inv X pins σ H s->t D σ H->KC (KE X.prog X.w) X.A (execs st X.env) (SP X pins D) X.xe s
theorem thn{t:Sem α}(h:KC M A t Q E s)(b:∀a s,Q a s->c a s):KC M A t c E s:=BM h b fun _ _ x=>x
noncomputable def tVar(i:Nat):TE:=fun σ H Q=>∃v,σ[i]?=some (some v)/\Q v H
noncomputable def tC(v:V):TE:=fun _ H Q=>Q v H
theorem ae6{x:Str}(f:X.N[i]?=some x)(g:Vis X.env.scope x)(hd:autoParam ((x==("__debug__":Str))=false) a1_)(hcd:autoParam ((x==("__classdict__":Str))=false) a1_):PE X (.Name x pos) (tVar i):=by
 intro d s σ H Q I h;obtain⟨v,e,h⟩:=h;obtain⟨m,hn,hl⟩:=I.loc;obtain⟨u,r,l⟩:=hl i x v f e g;have fin:EP X d σ Q u s:=⟨v,H,I,r,h⟩
 rcases l with⟨b,hm⟩|⟨b,c,hc,a⟩
 . exact J0 (wpAny_loadName_local I.ok.kind b hn hm fin) hd
 . rcases b with b|b
   . exact J0 (wpAny_loadName_cell I.ok.kind b hc a fin) hd
   . exact J0 (wpAny_loadName_free I.ok.kind b hc a fin hcd) hd
theorem rd{i j pos}:PE X (.Constant (.int i) j pos) (tC (.int i)):=fun _ _ _ H _ I h=>wpAny_Constant_int ⟨.int i,H,I.tok _,⟨_,rfl⟩,h⟩
theorem abc{b j pos}:PE X (.Constant (.bool b) j pos) (tC (.bl b)):=fun _ _ _ H _ I h=>Constant_bool ⟨.bl b,H,I,rfl,h⟩
theorem ady{j pos}:PE X (.Constant .none j pos) (tC .non):=fun _ _ _ H _ I h=>Constant_none ⟨.non,H,I,rfl,h⟩
theorem a2p{x j pos}:PE X (.Constant (.str x) j pos) (tC (.str x)):=fun _ _ _ H _ I h=>Calls.Constant_str ⟨.str x,H,I.tok _,⟨_,rfl⟩,h⟩
noncomputable def Gl(X:Cx)(x:Str):Prop:=X.env.kindOf x=some .globalImplicit
theorem a04{x:Str}(I:Inv X a σ H s)(b:Gl X x)(hm:X.mg x=some u)(h:Q u s)(hd:autoParam ((x==("__debug__":Str))=false) a1_):KC (KE X.prog X.w) X.A (eval (.Name x pos) X.env) Q E s :=
 FJ I.ok.kind b (Calls.loadGlobal_global (by rw[I.ok.glob];exact I.mod.glob.keeps I.bk) hm h) hd
theorem oe{x:Str}(I:Inv X a σ H s)(c:Gl X x)(hm:X.mg x=none)(d:bootBuiltins x=some u)(h:Q u s)(hn:autoParam (x≠"__name__") a1_)(hd:autoParam ((x==("__debug__":Str))=false) a1_):KC (KE X.prog X.w) X.A (eval (.Name x pos) X.env) Q E s:=by
 obtain⟨f,e,b⟩:=I.mod.blt;exact FJ I.ok.kind c (Calls.loadGlobal_builtin (by rw[I.ok.glob];exact I.mod.glob.keeps I.bk) hm (by rw[I.ok.blt];exact e.keeps I.bk) ((b x hn).trans d) h) hd
theorem adb{x:Str}(a:Gl X x)(hm:X.mg x=some u)(r:RelV v u)(hd:autoParam ((x==("__debug__":Str))=false) a1_):PE X (.Name x pos) (tC v) :=
 fun _ _ _ H _ I h=>a04 I a hm ⟨v,H,I,r,h⟩ hd
noncomputable def PC(X:Cx)(op:CmpOp)(a b:Expr)(t:TE):Prop :=
 ∀(pins:List (KA×Obj)) (s:KG) (σ:St) (H:Hp) (Q:VK),Inv X pins σ H s->t σ H Q->
   KC (KE X.prog X.w) X.A (eval a X.env) (fun v s₁=>KC (KE X.prog X.w) X.A (eval b X.env) (fun u s₂=>KC (KE X.prog X.w) X.A (KL op v u) (EP X pins σ Q) X.xe s₂) X.xe s₁) X.xe s
noncomputable def tB(t:TE):TT:=fun σ H Q=>t σ H fun x H1=>∃c,x=.bl c/\Q c H1
theorem aez{t:TE}(h:PC X op a b t)(f:Kk op b=false:=by first|exact nobehind _ (by decide) (by decide)|rfl):PT X (.Compare a [op] [b] pos) (tB t):=by
 intro e s σ H Q I hw;refine HK (thn (h e s σ H _ I hw) fun v p f=>thn f fun u n g=>thn g fun c o ⟨x,i,m,j,l⟩=>?_) f;obtain⟨d,rfl,q⟩:=l;cases j;exact BN ⟨i,m,q⟩
theorem afb{t:TE}(h:PE X e t)(g:autoParam (∀a,isTrue e X.env a=(do let v<-a;standAt e.pos;holding [v] (truthy v))) a2_):PT X e (tB t):=by
 intro b s σ H Q I hw;refine isTrue_plain (thn (h b s σ H _ I hw) fun v l ⟨x,c,j,f,i⟩=>?_) (g _);obtain⟨d,rfl,q⟩:=i;cases f;exact BN ⟨c,j,q⟩
noncomputable def tAnd(t u:TT):TT:=fun σ H Q=>t σ H fun c H1=>if c=true then u σ H1 Q else Q false H1
noncomputable def tOr(t u:TT):TT:=fun σ H Q=>t σ H fun c H1=>if c=true then Q true H1 else u σ H1 Q
theorem adc(ha:PT X a d):PW X (.BoolOp .And [a] pos) d:=by
 intro g b s σ H Q I h;refine isTrue_and (thn (ha b s σ H Q I h) fun c f e=>?_);cases c with
 | true=>exact isTrue_and_nil e
 | false=>exact e
theorem a81(ha:PT X a d):PW X (.BoolOp .Or [a] pos) d:=by
 intro g b s σ H Q I h;refine isTrue_or (thn (ha b s σ H Q I h) fun c f e=>?_);cases c with
 | false=>exact isTrue_or_nil e
 | true=>exact e
theorem af2{rest:List Expr}(ha:PT X a j)(hb:PW X (.BoolOp .And (b::rest) pos) e):PW X (.BoolOp .And (a::b::rest) pos) (tAnd j e):=by
 intro m d s σ H Q I h;refine isTrue_and (thn (ha d s σ H _ I h) fun c l ⟨f,i,g⟩=>?_);cases c with
 | true=>exact hb m d l σ f Q i g
 | false=>exact⟨f,i,g⟩
theorem a56{rest:List Expr}(ha:PT X a j)(hb:PW X (.BoolOp .Or (b::rest) pos) e):PW X (.BoolOp .Or (a::b::rest) pos) (tOr j e):=by
 intro m d s σ H Q I h;refine isTrue_or (thn (ha d s σ H _ I h) fun c l ⟨f,i,g⟩=>?_);cases c with
 | true=>exact⟨f,i,g⟩
 | false=>exact hb m d l σ f Q i g
noncomputable def ag2(ta tb:TE):TE:=fun σ H Q=>ta σ H fun x H1=>∃c,x=.bl c/\if c=true then tb σ H1 Q else Q (.bl false) H1
noncomputable def tOrV(ta tb:TE):TE:=fun σ H Q=>ta σ H fun x H1=>∃c,x=.bl c/\if c=true then Q (.bl true) H1 else tb σ H1 Q
theorem a7w{op}{t:TE}(h:PE X a t):PE X (.BoolOp op [a] pos) t:=fun b s σ H Q I hw=>BoolOp_one (h b s σ H Q I hw)
theorem aem{rest:List Expr}(ha:PE X a m)(hb:PE X (.BoolOp .And (b::rest) pos) j):PE X (.BoolOp .And (a::b::rest) pos) (ag2 m j):=by
 intro d s σ H Q I h;refine BoolOp_and (thn (ha d s σ H _ I h) fun v l ⟨x,f,g,i,e⟩=>?_);obtain⟨c,rfl,e⟩:=e;cases i;refine BN ?_;cases c with
 | true=>exact hb d l σ f Q g e
 | false=>exact⟨.bl false,f,g,rfl,e⟩
theorem afr{rest:List Expr}(ha:PE X a m)(hb:PE X (.BoolOp .Or (b::rest) pos) j):PE X (.BoolOp .Or (a::b::rest) pos) (tOrV m j):=by
 intro d s σ H Q I h;refine BoolOp_or (thn (ha d s σ H _ I h) fun v l ⟨x,f,g,i,e⟩=>?_);obtain⟨c,rfl,e⟩:=e;cases i;refine BN ?_;cases c with
 | false=>exact hb d l σ f Q g e
 | true=>exact⟨.bl true,f,g,rfl,e⟩
noncomputable def tIf(t:TT)(ta tb:TE):TE:=fun σ H Q=>t σ H fun c H1=>if c=true then ta σ H1 Q else tb σ H1 Q
theorem a9b(hc:PT X c m)(ha:PE X a n)(hb:PE X b l):PE X (.IfExp c a b pos) (tIf m n l):=by
 intro e s σ H Q I h;refine wpAny_IfExp (thn (hc e s σ H _ I h) fun d j ⟨f,i,g⟩=>?_);cases d with
 | true=>exact ha e j σ f Q i g
 | false=>exact hb e j σ f Q i g
noncomputable def SqL(K:Ab)(H:Hp)(a:KA)(xs:List V):Prop :=
 Rd H a (.lst xs)\/
  ∃(o:Obj) (its:Array KB) (n:Nat),K.lookup a=some o/\o.cls=.type "list" /\ o.dict=none/\o.data=.seq its n/\its.size<=KF/\Vals xs its.toList
noncomputable def SqT(K:Ab)(H:Hp)(a:KA)(xs:List V):Prop :=
 Rd H a (.tup xs)\/
  ∃(o:Obj) (its:Array KB) (n:Nat),K.lookup a=some o/\o.cls=.type "tuple" /\ o.data=.seq its n/\its.size<=KF/\Vals xs its.toList
noncomputable def absV:KB->Option V
 | .none=>some .non
 | .bool b=>some (.bl b)
 | .int i _=>some (.int i)
 | .str x _=>some (.str x)
 | .bytes b _=>some (.byt b)
 | .float b _=>some (.flt b)
 | .ref a=>some (.ref a)
 | .type n=>some (.ty n)
 | _=>none
theorem RelV.abs{x:V}(r:RelV x u):absV u=some x:=by
 cases x with
 | non=>cases r;rfl
 | bl _=>cases r;rfl
 | int _=>obtain⟨t,rfl⟩:=r;rfl
 | str _=>obtain⟨t,rfl⟩:=r;rfl
 | byt _=>obtain⟨t,rfl⟩:=r;rfl
 | flt _=>obtain⟨t,rfl⟩:=r;rfl
 | ref _=>cases r;rfl
 | ty _=>cases r;rfl
theorem RelV.inj{x:V}(r:RelV x u)(q:RelV y u):x=y:=Au (r.abs.symm.trans q.abs)
theorem Vals.inj:∀{xs ys:List V}{us:List KB},Vals xs us->Vals ys us->xs=ys
 | _,_,_,.nil,.nil=>rfl
 | _,_,_,.cons r t,.cons r' t'=>by rw[r.inj r',Vals.inj t t']
theorem SqL.of{K:Ab}(h:H a=some (.lst xs)):SqL K H a xs:=.inl (.inl h)
theorem SqT.of{K:Ab}(h:H a=some (.tup xs)):SqT K H a xs:=.inl (.inl h)
theorem Inv.list(I:Inv X b σ H s)(h:SqL X.K H a xs):∃its:List KB,Vals xs its/\PlainL s.heap a its.toArray/\xs.length<=KF:=by
 rcases h with h|⟨o,its,n,c,hc,hd,hs,hz,r⟩
 . obtain⟨z,its,n,r,e⟩:=h.ok I.hok;exact⟨its,r,⟨_,n,e,rfl,rfl,rfl⟩,z⟩
 . refine⟨its.toList,r,⟨o,n,I.kIn a o c,hc,hd,by simpa using hs⟩,?_⟩;have e:=r.length;simp only[Bj] at e
   lia
theorem Inv.tuple(I:Inv X b σ H s)(h:SqT X.K H a xs):∃its:List KB,Vals xs its/\IsTup s.heap a its.toArray/\xs.length<=KF:=by
 rcases h with h|⟨o,its,n,c,hc,hs,hz,r⟩
 . obtain⟨z,its,r,p⟩:=h.ok I.hok;exact⟨its,r,p,z⟩
 . refine⟨its.toList,r,⟨o,I.kIn a o c,hc,n,by simpa using hs⟩,?_⟩;have e:=r.length;simp only[Bj] at e
   lia
theorem Inv.list_inj(I:Inv X c σ H s)(h:SqL X.K H a xs)(h':SqL X.K H a ys):xs=ys:=by
 obtain⟨its,r,⟨o,n,e,_,_,d⟩,_⟩:=I.list h;obtain⟨its',f,⟨i,g,b,_,_,d'⟩,_⟩:=I.list h';rw[e] at b;cases b;rw[d] at d';injection d' with d1 _;have:its=its':=by simpa using congrArg JT d1
 subst this;exact r.inj f
theorem Inv.tuple_inj(I:Inv X c σ H s)(h:SqT X.K H a xs)(h':SqT X.K H a ys):xs=ys:=by
 obtain⟨its,r,⟨o,e,_,n,d⟩,_⟩:=I.tuple h;obtain⟨its',f,⟨i,b,_,g,d'⟩,_⟩:=I.tuple h';rw[e] at b;cases b;rw[d] at d';injection d' with d1 _;have:its=its':=by simpa using congrArg JT d1
 subst this;exact r.inj f
abbrev Cx.wish(X:Cx)(E:KB->KG->Prop):Cx:={X with xe:=E}
abbrev Cx.nox(X:Cx):Cx:=X.wish fun _ _=>False
theorem Cx.Ok.wish{X:Cx}(ok:X.Ok)(E:KB->KG->Prop):(X.wish E).Ok :=
 ⟨ok.mod,ok.kind,ok.glob,ok.blt,ok.above,ok.inj,ok.has,ok.cab,ok.hd,ok.frames,ok.stk,ok.exf,ok.bs,ok.bsz,ok.noex,ok.exfs,ok.funs,ok.frf⟩
theorem Cx.Ok.unwish{X:Cx}(ok:(X.wish E).Ok):X.Ok :=
 ⟨ok.mod,ok.kind,ok.glob,ok.blt,ok.above,ok.inj,ok.has,ok.cab,ok.hd,ok.frames,ok.stk,ok.exf,ok.bs,ok.bsz,ok.noex,ok.exfs,ok.funs,ok.frf⟩
theorem Inv.wish(I:Inv X a σ H s)(E:KB->KG->Prop):Inv (X.wish E) a σ H s:=⟨I.ok.wish E,I.os,I.bare,I.base,I.loc,I.cell,I.free,I.freeC,I.pin,I.hok,I.len⟩
theorem Inv.unwish(I:Inv (X.wish E) a σ H s):Inv X a σ H s:=⟨I.ok.unwish,I.os,I.bare,I.base,I.loc,I.cell,I.free,I.freeC,I.pin,I.hok,I.len⟩
theorem SP.unwish(h:SP (X.wish E) b D f s'):SP X b D f s':=by
 cases f with
 | next=>obtain⟨a,H',I,q⟩:=h;exact⟨a,H',I.unwish,q⟩
 | brk=>obtain⟨a,H',I,q⟩:=h;exact⟨a,H',I.unwish,q⟩
 | cont=>obtain⟨a,H',I,q⟩:=h;exact⟨a,H',I.unwish,q⟩
 | ret u=>obtain⟨v,a,H',I,r,q⟩:=h;exact⟨v,a,H',I.unwish,r,q⟩
theorem PSs.nox{st:List KN}{t:TS}(h:PSs X.nox st t):PSs X st t:=fun a s σ H D I hw =>
 BM (h a s σ H D (I.wish _) hw) (fun _ _ q=>q.unwish) fun _ _ z=>Co z
noncomputable def a5f:TS:=fun D σ H=>D.nx σ H
noncomputable def tSeq(t u:TS):TS:=fun D σ H=>t {D with nx:=u D} σ H
theorem a4i:PSs X [] a5f:=fun _ _ σ H _ I h=>Fb ⟨σ,H,I,h⟩
theorem uu{st:KN}{rest:List KN}{t:TS}(d:PS X st t)(b:PSs X rest u):PSs X (st::rest) (tSeq t u):=by
 intro a s σ H D I h;refine Jp (thn (d a s σ H {D with nx:=u D} I h) fun f e q=>?_);cases f with
 | next =>
  obtain⟨c,H',g,q⟩:=q;exact b a e c H' D g q
 | ret v=>exact q
 | brk=>exact q
 | cont=>exact q
theorem ug{st:KN}{t:TS}(b:PS X st t):PSs X [st] t:=by
 intro a s σ H D I h;refine Jp (thn (b a s σ H D I h) fun f c q=>?_);cases f with
 | next=>exact Fb q
 | ret v=>exact q
 | brk=>exact q
 | cont=>exact q
theorem Inv.quiet(I:Inv X a σ H s):interactive X.env=false:=by simp[interactive,I.ok.kind]
noncomputable def n0(te:TE):TS:=fun D σ H=>te σ H fun _ H1=>D.nx σ H1
theorem a4g(c:PE X e d)(hs:autoParam (Kn e none pos.line X.env=pure false) a3_):PS X (.Expr e pos) (n0 d):=by
 intro a s σ H D I h;exact wpAny_Expr_any (thn (c a s σ H _ I h) fun v j ⟨x,b,g,i,f⟩=>⟨σ,b,g,f⟩) I.quiet hs
noncomputable def tRet(te:TE):TS:=fun D σ H=>te σ H D.rt
theorem zk(d:PE X e f):PS X (.Return (some e) pos) (tRet f):=by
 intro a s σ H D I h;exact wpAny_Return_some (thn (d a s σ H _ I h) fun v j ⟨x,b,i,c,g⟩=>⟨x,σ,b,i,c,g⟩)
noncomputable def abn:TS:=fun D _ H=>D.rt .non H
theorem acc:PS X (.Return none pos) abn:=fun _ _ σ H _ I h=>wpAny_Return_none ⟨.non,σ,H,I,rfl,h⟩
noncomputable def tIfS(c:TT)(t u:TS):TS:=fun D σ H=>c σ H fun b H1=>if b=true then t D σ H1 else u D σ H1
theorem abk{t:TS}(hc:PT X c l)(ha:PSs X a t)(hb:PSs X b u):PS X (.If c a b pos) (tIfS l t u):=by
 intro e s σ H D I h;refine wpAny_If (thn (hc e s σ H _ I h) fun d j ⟨f,i,g⟩=>?_);cases d with
 | true=>exact ha e j σ f D i g
 | false=>exact hb e j σ f D i g
abbrev TG:=V->St->Hp->(St->Hp->Prop)->Prop
abbrev TGs:=List V->St->Hp->(St->Hp->Prop)->Prop
noncomputable def PG(X:Cx)(target:Expr)(t:TG):Prop :=
 ∀(pins:List (KA×Obj)) (s:KG) (σ:St) (H:Hp) (v:V) (u:KB) (Q:St->Hp->Prop),Inv X pins σ H s->RelV v u->t v σ H Q->
   KC (KE X.prog X.w) X.A (assign target X.env u) (fun _ s'=>∃σ' H',Inv X pins σ' H' s'/\Q σ' H') X.xe s
noncomputable def PGs(X:Cx)(ts:List Expr)(t:TGs):Prop :=
 ∀(pins:List (KA×Obj)) (s:KG) (σ:St) (H:Hp) (vs:List V) (us:List KB) (Q:St->Hp->Prop),Inv X pins σ H s->Vals vs us->t vs σ H Q->
   KC (KE X.prog X.w) X.A (assignInOrder ((KJ ts X.env).map (·.2)) us) (fun _ s'=>∃σ' H',Inv X pins σ' H' s'/\Q σ' H') X.xe s
abbrev TSet:=V->V->V->Hp->(Hp->Prop)->Prop
noncomputable def PSet(X:Cx)(t:TSet):Prop :=
 ∀(pins:List (KA×Obj)) (s:KG) (σ:St) (H:Hp) (o i v:V) (ov iv u:KB) (Q:Hp->Prop),Inv X pins σ H s->RelV o ov->RelV i iv->RelV v u->t o i v H Q->
   KC (KE X.prog X.w) X.A (setItem ov iv u) (fun _ s'=>∃H',Inv X pins σ H' s'/\Q H') X.xe s
noncomputable def gt(i:Nat):TG:=fun v σ H Q=>Q (σ.set i (some v)) H
theorem xh{x:Str}(d:X.N.Nodup)(hi:X.N[i]?=some x)(c:Loc X.env.scope x)(b:autoParam (X.fn x=true\/X.env.scope.names.lookup x=some .local) a0_):PG X (.Name x pos) (gt i):=by
 intro a s σ H v u Q I r h;exact FU (yj I d hi c r (fun s' e=>⟨_,H,e,h⟩) b)
noncomputable def gNil:TGs:=fun vs σ H Q=>vs=[]/\Q σ H
noncomputable def mx(t:TG)(u:TGs):TGs:=fun vs σ H Q=>∃v r,vs=v::r/\t v σ H fun σ' H'=>u r σ' H' Q
theorem wc:PGs X [] gNil:=by
 intro a s σ H vs us Q I r h;obtain⟨e,h⟩:=h;subst e;cases r;exact assignInOrder_nil ⟨σ,H,I,h⟩
theorem ko{t:TG}(i:PG X e t)(b:PGs X es u)(hs:autoParam ((KJ (e::es) X.env).map (·.2)=assign e X.env::(KJ es X.env).map (·.2)) a3_):PGs X (e::es) (mx t u):=by
 intro a s σ H vs us Q I r h;obtain⟨v,m,d,h⟩:=h;subst d;cases r with
 | cons r rr =>
  rw[hs];refine assignInOrder_cons (thn (i a s σ H _ _ _ I r h) fun _ j ⟨l,c,g,f⟩=>?_);exact b a j l c _ _ Q g rr f
noncomputable def gTup(K:Ab)(n:Nat)(t:TGs):TG:=fun v σ H Q=>∃a xs,v=.ref a/\SqT K H a xs/\xs.length=n/\t xs σ H Q
theorem a1q{k:Nat}{t:TGs}(hc:X.calm=true)(h:PGs X es t)(hn:autoParam ((KJ es X.env).length=n) a3_)(d:autoParam ((KJ es X.env).findIdx? (·.1)=none) a3_):PG X (.Tuple es k pos) (gTup X.K n t):=by
 intro c s σ H v u Q I r hw;obtain⟨a,xs,i,hq,hl,hw⟩:=hw;subst i;cases r;obtain⟨its,f,ht,hz⟩:=I.tuple hq;refine assign_Tuple_tuple (I.ok.hd hc) ht (by simp[hn,<- hl,f.length]) d fun h' g=>?_;have j:Inv X c σ H {s with heap:=h'}:=I.kept (t':=s.toks) fun b o e=>g b o (AC (Ar e)) e;exact h c _ σ H xs _ Q j (by simpa using f) hw
noncomputable def gSub(to ti:TE)(t:TSet):TG:=fun v σ H Q=>to σ H fun o H1=>ti σ H1 fun i H2=>t o i v H2 fun H3=>Q σ H3
theorem aef{t:TSet}(l:PE X o to)(hi:PE X i g)(hs:PSet X t)(ha:autoParam (∀v,assign (.Subscript o i pos) X.env v=(do
 let b<-holding [v] (eval o X.env);let c<-holding [v,b] (eval i X.env)
 standAt pos
 holding [v,b,c] (setItem b c v)
 release [v,b,c] [])) a2_):PG X (.Subscript o i pos) (gSub to g t):=by
 intro a s σ H v u Q I r h;rw[ha];refine Aa (AU (thn (l a s σ H _ I h) fun b q ⟨x,d,m,f,C⟩=>?_));refine Aa (AU (thn (hi a q σ d _ m C) fun c j ⟨y,n,w,p,z⟩=>?_));refine Aa (EM (Aa (AU (thn (hs a j σ n x y v b c u _ w f p r z) fun _ E ⟨D,e,A⟩=>?_))));exact wpAny_release ⟨σ,D,e,A⟩
noncomputable def tAsg(te:TE)(g:TG):TS:=fun D σ H=>te σ H fun x H1=>g x σ H1 D.nx
theorem ae8(f:PE X e j)(i:PG X b g)(hs:autoParam (swapsWithSole [b] e pos.line X.env=pure false) a3_)(hw:autoParam (swappedStores [b] e X.env=pure none) a3_)(n:autoParam ((KJ [b] X.env).map (·.2)=[assign b X.env]) a3_):PS X (.Assign [b] e pos) (tAsg j g):=by
 intro a s σ H D I h;refine wpAny_Assign_stores (thn (f a s σ H _ I h) fun v o ⟨x,c,m,d,l⟩=>?_) hs hw;rw[n];exact thn (i a o σ c x v _ m d l) fun _ p q=>q
theorem a5w{x:Str}(l:X.N.Nodup)(hi:X.N[i]?=some x)(j:Loc X.env.scope x)(g:PE X e m)(hs:autoParam (Kn e (some (.Name x a)) pos.line X.env=pure false) a3_)(d:autoParam (X.fn x=true\/X.env.scope.names.lookup x=some .local) a0_):
 PS X (.Assign [.Name x a] e pos) (tAsg m (gt i)):=by
 intro b s σ H D I h;refine wpAny_Assign_Name (thn (g b s σ H _ I h) fun v r ⟨y,c,o,f,n⟩=>?_) hs;exact yj o l hi j f (fun q p=>⟨_,c,p,n⟩) d
noncomputable def ui(c:TT)(tb:TS):TS:=fun D σ H=>∃W:Nat->St->Hp->Prop,(∃m,W m σ H)/\∀m σ H,W m σ H->
 c σ H fun b H1=>if b=true then ∃N:St->Hp->Prop,(∀σ' H',N σ' H'->∃m',m'<m/\W m' σ' H')/\tb {D with nx:=N,ct:=N,bk:=D.nx} σ H1 else D.nx σ H1
theorem aao(hp:PassesOwn (KE X.prog X.w) X.A X.env X.xe)(hc:PT X c L)(hb:PSs X body M):PS X (.While c body [] pos) (ui L M):=by
 intro a s σ H D I h;obtain⟨W,⟨J,G⟩,turn⟩:=h;refine wpAny_While (codeAny_whileLoop (fun n s'=>∃q H',Inv X a q H' s'/\W n q H') ?_ J ⟨σ,H,I,G⟩);rintro n E ⟨j,p,C,F⟩;refine CO hp (thn (hc a E j p _ C (turn n j p F)) fun b z ⟨u,y,g⟩=>?_);cases b with
 | true =>
  obtain⟨N,r,g⟩:=g;rw[if_pos rfl];refine CO hp (thn (hb a z j u _ y g) fun f O i=>?_);cases f with
  | next =>
   obtain⟨d,e,l,n3⟩:=i;obtain⟨m,hm,o⟩:=r d e n3;exact⟨m,hm,d,e,l,o⟩
  | cont =>
   obtain⟨d,e,l,n3⟩:=i;obtain⟨m,hm,o⟩:=r d e n3;exact⟨m,hm,d,e,l,o⟩
  | brk=>exact i
  | ret v=>exact i
 | false =>
  rw[if_neg Ak];exact Fb ⟨j,u,y,g⟩
structure It where
 go:Nat->Hp->Prop
 yld:Nat->Hp->V->Hp->Prop
 stop:Nat->Hp->Prop
noncomputable def FpOk(X:Cx)(pins:List (KA×Obj))(H:Hp)(b:KA):Prop :=
 H b=none/\b≠X.env.locals/\b∉X.fs/\(b∈X.ex\/X.s₀.heap.objs.size<=b)/\(∀x c,X.env.cells.lookup x=some c->c≠b)/\∀p∈X.pn++pins,p.1≠b
theorem Inv.fpOk(I:Inv X a σ H s)(hb:s.heap.objs.size<=b)(hn:H' b=none):FpOk X a H' b:=by
 refine⟨hn,BV (AK I.lt hb),I.nofs hb,.inr (Aw I.sz hb),fun x c e z=>?_,fun p hp z=>?_⟩
 . obtain⟨v,q⟩:=I.cell x c e;exact absurd (AK q.lt (by rw[z];exact hb)) (Bz _)
 . exact absurd (AK (Ar (I.pin p hp).1) (by rw[z];exact hb)) (Bz _)
structure Turn(P:KZ)(w:KY)(K:Ab)(tg:Expr)(J:It)(fp:List KA)(it:KA)(tn:Nat->KU->Prop):Prop where
 mem:it∈fp
 obj:∀i h,tn i h->∀b∈fp,∃o,h.get? b=some o/\∀v,o.data≠.cell v
 keep:∀i h h',tn i h->(∀b∈fp,∀o,h.get? b=some o->h'.get? b=some o)->tn i h'
 item:∀(X:Cx),X.prog=P->X.w=w->X.K=K->X.calm=true->∀(i:Nat) (pins:List (KA×Obj)) (s:KG) (σ:St) (H:Hp) (E:KB->KG->Prop),Inv X pins σ H s->(∀b∈fp,FpOk X pins H b)->tn i s.heap->J.go i H->
  KC (KE P w) X.A (Kh (.ref it)) (fun r s1=>∃u,r=some u/\
   KC (KE P w) X.A (letOwnedTupleGo tg (.ref it) u) (fun _ s2=>∃x H',Inv X pins σ H' s2/\RelV x u/\J.yld i H x H'/\tn (i+1) s2.heap/\∀b∈fp,H' b=none) E s1) E s
 done:∀(X:Cx),X.prog=P->X.w=w->X.K=K->X.calm=true->∀(i:Nat) (pins:List (KA×Obj)) (s:KG) (σ:St) (H:Hp) (E:KB->KG->Prop),Inv X pins σ H s->(∀b∈fp,FpOk X pins H b)->tn i s.heap->J.stop i H->
  KC (KE P w) X.A (Kh (.ref it)) (fun r s1=>r=none/\Inv X pins σ H s1) E s
 self:∀(A:Kq) (i:Nat) (s:KG) (Q:KB->KG->Prop) (E:KB->KG->Prop),tn i s.heap->Q (.ref it) s->KC (KE P w) A (pyIter (.ref it)) Q E s
abbrev TI:=St->Hp->(It->Hp->Prop)->Prop
noncomputable def PIE(X:Cx)(pins:List (KA×Obj))(σ:St)(tg:Expr)(R:It->Hp->Prop)(itv:KB)(s2:KG):Prop :=
 ∃(it:KA) (fp:List KA) (tn:Nat->KU->Prop) (J:It) (H':Hp),itv=.ref it/\Inv X pins σ H' s2/\Turn X.prog X.w X.K tg J fp it tn/\tn 0 s2.heap/\(∀b∈fp,FpOk X pins H' b)/\R J H'
noncomputable def PI(X:Cx)(tg iter:Expr)(wi:TI):Prop :=
 ∀(pins:List (KA×Obj)) (s:KG) (σ:St) (H:Hp) (R:It->Hp->Prop),Inv X pins σ H s->wi σ H R->
   KC (KE X.prog X.w) X.A (eval iter X.env) (fun v s1=>KC (KE X.prog X.w) X.A (pyIter v) (PIE X pins σ tg R) X.xe s1) X.xe s
theorem yt(c:s.heap.get? it=some o)(hc:o.cls=.type n)(hd:o.data=.fields vs)(hn:["enumerate","zip","dict_itemiterator","dict_reverseitemiterator","odict_iterator","itertools.zip_longest","itertools.pairwise"].contains n=false)(a:Q () s):KC M A (letOwnedTupleGo b (.ref it) u) Q E s:=by
 unfold letOwnedTupleGo;cases b<;>first
  | exact Ae a
  | (cases u<;>first
   | exact Ae a
   | (refine Aa (J8 c ?_)
      rw[hc,hd];show KC M A (if (["enumerate","zip","dict_itemiterator","dict_reverseitemiterator","odict_iterator","itertools.zip_longest","itertools.pairwise"].contains n && vs[0]?==some (Ko _))=true then _ else _) Q E s;rw[if_neg (by intro h;rw[hn,Fq] at h;cases h)];exact Ae a))
noncomputable def Itl(K:Ab)(a:KA):It :=
 ⟨fun i H=>∃xs x,SqL K H a xs/\xs[i]?=some x,fun i H x H'=>H'=H/\∀xs,SqL K H a xs->xs[i]?=some x,fun i H=>∃xs,SqL K H a xs/\xs.length<=i⟩
noncomputable def Itt(K:Ab)(a:KA):It :=
 ⟨fun i H=>∃xs x,SqT K H a xs/\xs[i]?=some x,fun i H x H'=>H'=H/\∀xs,SqT K H a xs->xs[i]?=some x,fun i H=>∃xs,SqT K H a xs/\xs.length<=i⟩
noncomputable def Itr(lo:Int)(n:Nat):It:=⟨fun i _=>i<n,fun i H x H'=>H'=H/\x=.int (lo+i),fun i _=>n<=i⟩
theorem a6o{K:Ab}(a it:KA):Turn P w K N (Itl K a) [it] it (fun i h=>h.IsListIter it a i) where
 mem:=by simp
 obj:=fun i h st b hb=>by
  have e:b=it:=by simpa using hb
  subst e;obtain⟨o,e,c,d⟩:=st;exact⟨o,e,fun v z=>by rw[d] at z;cases z⟩
 keep:=fun i h h' st k=>st.at fun o e=>k it (by simp) o e
 item:=by
  intro X C hw hK hc i f s σ H E I j st y;subst C hw hK;obtain⟨xs,x,hq,r⟩:=y;obtain⟨its,A,p,hz⟩:=I.list hq;obtain⟨u,J,D⟩:=A.get r;obtain⟨q,f1,f2,l,m,n⟩:=j it (by simp);refine EH st p.isList (x:=u) (by simpa using J) fun h' g G=>?_;have F:Inv X f σ H {s with heap:=h'}:=I.turned (t':=s.toks) (fun b o hb e=>(G.2 b hb).trans e) q f1 l m n;obtain⟨o,e,c,d⟩:=id g;exact⟨u,rfl,yt (s:={s with heap:=h'}) e c d (by decide) ⟨x,H,F,D,⟨rfl,fun ys L=>by rw[I.list_inj L hq];exact r⟩,g,fun b hb=>(j b hb).1⟩⟩
 done:=by
  intro X C hw hK hc i f s σ H E I j st y;subst C hw hK;obtain⟨xs,hq,r⟩:=y;obtain⟨its,A,p,hz⟩:=I.list hq;obtain⟨q,f1,f2,l,m,n⟩:=j it (by simp);have hl:=A.length;exact ET (I.ok.hd hc) st p.isList (by simp;lia) fun h' M=>⟨rfl,I.turned (t':=s.toks) (fun b o hb e=>M b o hb e) q f1 l m n⟩
 self:=fun _ _ _ _ _ st h=>wpAny_pyIter_listiter st h
theorem a4n{K:Ab}(a it:KA):Turn P w K N (Itt K a) [it] it (fun i h=>h.IsTupleIter it a i) where
 mem:=by simp
 obj:=fun i h st b hb=>by
  have e:b=it:=by simpa using hb
  subst e;obtain⟨o,e,c,d⟩:=st;exact⟨o,e,fun v z=>by rw[d] at z;cases z⟩
 keep:=fun i h h' st k=>st.at fun o e=>k it (by simp) o e
 item:=by
  intro X C hw hK hc i f s σ H E I j st y;subst C hw hK;obtain⟨xs,x,hq,r⟩:=y;obtain⟨its,A,p,hz⟩:=I.tuple hq;obtain⟨u,J,D⟩:=A.get r;obtain⟨q,f1,f2,l,m,n⟩:=j it (by simp);refine wpAny_pyNext_tuple_item st (show s.heap.IsTuple a its.toArray from p) (x:=u) (by simpa using J) fun h' g G=>?_;have F:Inv X f σ H {s with heap:=h'}:=I.turned (t':=s.toks) (fun b o hb e=>(G.2 b hb).trans e) q f1 l m n;obtain⟨o,e,c,d⟩:=id g;exact⟨u,rfl,yt (s:={s with heap:=h'}) e c d (by decide) ⟨x,H,F,D,⟨rfl,fun ys L=>by rw[I.tuple_inj L hq];exact r⟩,g,fun b hb=>(j b hb).1⟩⟩
 done:=by
  intro X C hw hK hc i f s σ H E I j st y;subst C hw hK;obtain⟨xs,hq,r⟩:=y;obtain⟨its,A,p,hz⟩:=I.tuple hq;obtain⟨q,f1,f2,l,m,n⟩:=j it (by simp);have hl:=A.length;exact wpAny_pyNext_tuple_end (I.ok.hd hc) st (show s.heap.IsTuple a its.toArray from p) (by simp;lia) fun h' M=>⟨rfl,I.turned (t':=s.toks) (fun b o hb e=>M b o hb e) q f1 l m n⟩
 self:=fun _ _ _ _ _ st h=>wpAny_pyIter_tupleiter st h
theorem a4y{K:Ab}(it:KA)(lo:Int)(n:Nat):Turn P w K A (Itr lo n) [it] it (fun i h=>IsRangeIter h it (lo+(i:Nat)*1) ((n:Int)-(i:Nat)) 1) where
 mem:=by simp
 obj:=fun i h st b hb=>by
  have e:b=it:=by simpa using hb
  subst e;exact⟨_,st,fun v z=>by
   have u:Data.fields _=Data.cell v:=z;cases u⟩
 keep:=fun i h h' st k=>k it (by simp) _ st
 item:=by
  intro X p hw hK hc i a s σ H E I d st m;subst p hw hK;obtain⟨l,f1,f2,f,g,j⟩:=d it (by simp);have W:=Kb (prog:=X.prog) (w:=X.w) (I.ok.hd hc) it lo 1 n;refine W.item i s _ _ m st fun v h' tk q c kk=>?_;obtain⟨t,rfl⟩:=q;have r:Inv X a σ H {s with heap:=h',toks:=tk}:=I.turned (fun b o hb e=>kk b o (by simpa using hb) e) l f1 f g j;refine⟨_,rfl,yt (s:={s with heap:=h',toks:=tk}) (n := "range_iterator") c rfl rfl (by decide) ⟨.int (lo+i),H,r,⟨t,?_⟩,⟨rfl,rfl⟩,c,fun b hb=>(d b hb).1⟩⟩;rw[Int.mul_one]
 done:=by
  intro X p hw hK hc i a s σ H E I d st m;subst p hw hK;obtain⟨l,f1,f2,f,g,j⟩:=d it (by simp);exact Ho (I.ok.hd hc) st (by have:n<=i:=m;lia) fun h' y=>⟨rfl,I.turned (t':=s.toks) (fun b o hb e=>y b o hb e) l f1 f g j⟩
 self:=fun _ _ _ _ _ st h=>Hq st h
noncomputable def a5l(K:Ab)(tl:TE):TI:=fun σ H R=>tl σ H fun x H1=>∃a,x=.ref a/\(∃xs,SqL K H1 a xs)/\R (Itl K a) H1
noncomputable def iTup(K:Ab)(tl:TE):TI:=fun σ H R=>tl σ H fun x H1=>∃a,x=.ref a/\(∃xs,SqT K H1 a xs)/\R (Itt K a) H1
theorem a4e(hl:PE X l tl):PI X m l (a5l X.K tl):=by
 intro c s σ H R I h;refine thn (hl c s σ H _ I h) fun v f ⟨x,g,d,i,j⟩=>?_;obtain⟨a,e,⟨xs,hq⟩,q⟩:=j;subst e;cases i;obtain⟨its,n,p,hz⟩:=d.list hq;refine C5 p.isList ?_;refine⟨f.heap.objs.size,[f.heap.objs.size],_,_,g,rfl,d.kept (t':=f.toks) fun b o e=>Ac _ e,a6o a _,⟨_,An _ rfl,rfl,rfl⟩,fun b hb=>?_,q⟩;have e:b=f.heap.objs.size:=by simpa using hb
 subst e;exact d.fpOk (Aj _) (d.hok.fresh (Aj _))
theorem a6z(hl:PE X l tl):PI X m l (iTup X.K tl):=by
 intro d s σ H R I h;refine thn (hl d s σ H _ I h) fun v c ⟨x,g,f,i,j⟩=>?_;obtain⟨a,e,⟨xs,hq⟩,q⟩:=j;subst e;cases i;obtain⟨its,n,p,hz⟩:=f.tuple hq;refine Ee (show c.heap.IsTuple a its.toArray from p) ?_;refine⟨c.heap.objs.size,[c.heap.objs.size],_,_,g,rfl,f.kept (t':=c.toks) fun b o e=>Ac _ e,a4n a _,⟨_,An _ rfl,rfl,rfl⟩,fun b hb=>?_,q⟩;have e:b=c.heap.objs.size:=by simpa using hb
 subst e;exact f.fpOk (Aj _) (f.hok.fresh (Aj _))
theorem a1z{lo:Int}{t:Tok}(I:Inv X a σ H s)(i : -(2 ^ 62)<=lo)(d:lo<2 ^ 62)(g : -(2 ^ 62)<=hi)(j:hi<2 ^ 62)(q:R (Itr lo (hi-lo).toNat) H):KC (KE X.prog X.w) X.A (pyIter (.ref s.heap.objs.size)) (PIE X a σ l R) E {s with heap:=s.heap.push {cls:=.type "range",data:=.fields #[.int lo t,.int hi u,.int 1 v]},toks:=tk}:=by
 refine II (Kc ..) (small_one i d g j) ?_;have c:Inv X a σ H {s with heap:=s.heap.push {cls:=.type "range",data:=.fields #[.int lo t,.int hi u,.int 1 v]},toks:=tk}:=I.kept fun b o e=>Ac _ e;refine⟨(s.heap.push {cls:=.type "range",data:=.fields #[.int lo t,.int hi u,.int 1 v]}).objs.size,[(s.heap.push {cls:=.type "range",data:=.fields #[.int lo t,.int hi u,.int 1 v]}).objs.size],_,_,H,rfl,
  c.kept (t':=tk) fun b o e=>Ac _ e,a4y _ lo (hi-lo).toNat,?_,fun b hb=>?_,q⟩
 . have h:lo+((0:Nat):Int)*1=lo:=by simp
   have f:(((hi-lo).toNat:Nat):Int)-((0:Nat):Int)=Ci lo hi 1:=by rw[rangeSize_one];split<;>lia
   show IsRangeIter _ _ (lo+((0:Nat):Int)*1) ((((hi-lo).toNat:Nat):Int)-((0:Nat):Int)) 1;rw[h,f];exact An _ rfl
 . have e:b=(s.heap.push {cls:=.type "range",data:=.fields #[.int lo t,.int hi u,.int 1 v]}).objs.size:=by simpa using hb
   subst e;exact c.fpOk (Aj _) (c.hok.fresh (Aj _))
noncomputable def abu(ta:TA):TI:=fun σ H R=>ta σ H fun vs H1=>∃j:Int,vs=[.int j] /\ -(2 ^ 62)<=j/\j<2 ^ 62/\R (Itr 0 j.toNat) H1
noncomputable def abi(ta:TA):TI:=fun σ H R=>ta σ H fun vs H1=>∃i j:Int,vs=[.int i,.int j]/\(-(2 ^ 62)<=i/\i<2 ^ 62 /\ -(2 ^ 62)<=j/\j<2 ^ 62)/\R (Itr i (j-i).toNat) H1
theorem a66(f:Gl X "range")(hm:X.mg "range"=none)(ha:PA X [a] l)(hs:autoParam (KD [a] X.env=[(false,eval a X.env)]) a3_):PI X n (.Call (.Name "range" p) [a] [] pos) (abu l):=by
 intro b s σ H R I h;refine Call_ (oe I f hm boot_range (BH (thn (ha pos b s σ H _ I h) fun us o ⟨vs,m,g,d,c⟩=>?_) hs rfl));obtain⟨j,e,c,i,q⟩:=c;subst e;cases d with
 | cons r rr =>
  cases rr;obtain⟨t,rfl⟩:=r;exact call_range_1 (a1z g (by lia) (by lia) c i (by simpa using q))
theorem a8r(m:Gl X "range")(hm:X.mg "range"=none)(ha:PA X [a,b] v)(hs:autoParam (KD [a,b] X.env=[(false,eval a X.env),(false,eval b X.env)]) a3_)(c:autoParam (KD [b] X.env=[(false,eval b X.env)]) a3_):
 PI X y (.Call (.Name "range" p) [a,b] [] pos) (abi v):=by
 intro d s σ H R I h;refine Call_ (oe I m hm boot_range (BH (thn (ha pos d s σ H _ I h) fun us z ⟨vs,w,o,g,f⟩=>?_) (by rw[hs,c]) (by rw[c];rfl)));obtain⟨i,j,e,⟨f,u,l,n⟩,q⟩:=f;subst e;cases g with
 | cons r rr =>
  cases rr with
  | cons r' rr =>
   cases rr;obtain⟨t,rfl⟩:=r;obtain⟨t',rfl⟩:=r';exact call_range_2 (a1z o f u l n q)
noncomputable def tFor(wi:TI)(g:TG)(tb:TS):TS:=fun D σ H=>wi σ H fun J H1=>∃W:Nat->Nat->St->Hp->Prop,(∃m,W 0 m σ H1)/\∀i m σ H,W i m σ H->
 (J.stop i H/\D.nx σ H)\/(J.go i H/\∃N:St->Hp->Prop,(∀σ' H',N σ' H'->∃m',m'<m/\W (i+1) m' σ' H')/\∀x H',J.yld i H x H'->g x σ H' fun σ2 H2=>tb {D with nx:=N,ct:=N,bk:=D.nx} σ2 H2)
noncomputable def qb(fp:List KA)(h:KU):List (KA×Obj):=fp.filterMap fun b=>(h.get? b).map fun o=>(b,o)
theorem mo(hb:b∈a)(e:h.get? b=some o):(b,o)∈qb a h:=by grind [qb]
theorem a65(hp:p∈qb a h):p.1∈a/\h.get? p.1=some p.2:=by
 obtain⟨b,hb,e⟩:=IJ.mp hp;cases q:h.get? b with
 | none=>rw[q] at e;cases e
 | some o =>
  rw[q] at e;have c:(b,o)=p:=Au e;subst c;exact⟨hb,q⟩
theorem Inv.pinned(I:Inv X a σ H s)(g:∀b∈c,FpOk X a H b)(h:∀b∈c,∃o,s.heap.get? b=some o/\∀v,o.data≠.cell v):Inv X (a++qb c s.heap) σ H s :=
 I.pins_of fun p hp=>(Aq.mp hp).elim (fun z=>I.pin p (AG _ z)) fun z=>by
  obtain⟨hb,e⟩:=a65 z;obtain⟨i,f1,f2,_⟩:=g p.1 hb;obtain⟨o,f,d⟩:=h p.1 hb;rw[e] at f;cases f;exact⟨e,i,f1,f2,d⟩
theorem Inv.unpinned{pl:List (KA×Obj)}(I:Inv X (a++pl) σ H s):Inv X a σ H s:=I.pins_of fun p hp=>I.pin p (AG _ (AD _ hp))
theorem a7k(hp:PassesOwn (KE X.prog X.w) X.A X.env X.xe)(hc:X.calm=true)(hi:PI X tg z wi)(hg:PG X tg g)(hb:PSs X body tb)(hs:autoParam (∀x,KM z X.env x=pure x) a2_):PS X (.For tg z body [] pos) (tFor wi g tb):=by
 intro a s σ H D I h;refine wpAny_For (thn (hi a s σ H _ I h) fun v s1 h1=>thn h1 fun aa s2 h2=>?_) hs;obtain⟨it,L,tn,J,H2,e,I2,T,Q,f2,W,⟨m0,w0⟩,turn⟩:=h2;subst e;have j:∀{H':Hp},(∀b∈L,H' b=none)->∀b∈L,FpOk X a H' b:=fun hn b hb=>⟨hn b hb,(f2 b hb).2⟩
 refine codeAny_forLoop_any (fun n s'=>∃i E H',Inv X a E H' s'/\tn i s'.heap/\(∀b∈L,H' b=none)/\W i n E H') ?_ m0 ⟨0,σ,H2,I2,Q,fun b hb=>(f2 b hb).1,w0⟩;rintro n s3 ⟨i,M,P,Y,G,F,w3⟩;rcases turn i n M P w3 with⟨stop,qn⟩|⟨go,N,hN,step⟩
 . refine CO hp (thn (T.done X rfl rfl rfl hc i a s3 M P X.xe Y (j F) G stop) fun r s4 ⟨hr,I4⟩=>?_);subst hr;exact Fb ⟨M,P,I4,qn⟩
 . refine CO hp (thn (T.item X rfl rfl rfl hc i a s3 M P X.xe Y (j F) G go) fun r s4 ⟨u,hr,h4⟩=>?_);subst hr;refine CO hp (thn h4 fun _ s5 ⟨x,Z,I5,r5,y5,C,U⟩=>?_);have R:=I5.pinned (j U) (T.obj _ _ C);refine CO hp (thn (hg _ s5 M Z x u _ R r5 (step x Z y5)) fun _ s6 ⟨σ6,H6,I6,q6⟩=>?_);refine CO hp (thn (hb _ s6 σ6 H6 _ I6 q6) fun f S y=>?_);have p:∀{c:St} {l:Hp},Inv X (a++qb L s5.heap) c l S->N c l->∃m,m<n/\∃i E H',Inv X a E H' S/\tn i S.heap/\(∀b∈L,H' b=none)/\W i m E H':=fun {c l} q O=>by
    obtain⟨m',hm,w7⟩:=hN c l O;refine⟨m',hm,i+1,c,l,q.unpinned,T.keep _ _ _ C fun b hb o e=>(q.pin (b,o) (AG _ (AG _ (mo hb e)))).1,fun b hb=>?_,w7⟩;obtain⟨o,e,d⟩:=T.obj _ _ C b hb;exact (q.pin (b,o) (AG _ (AG _ (mo hb e)))).2.1
   cases f with
   | next=>obtain⟨c,l,q,O⟩:=y;exact p q O
   | cont=>obtain⟨c,l,q,O⟩:=y;exact p q O
   | brk=>obtain⟨c,l,q,y⟩:=y;exact⟨c,l,q.unpinned,y⟩
   | ret v=>obtain⟨x7,c,l,q,r7,y⟩:=y;exact⟨x7,c,l,q.unpinned,r7,y⟩
theorem ld{K:Ab}{g:TG}{l:TS}{D:Ends}(b:Nat->St->Hp->Prop)(h0:b 0 σ H)(hl:∀i σ H,i<=xs.length->b i σ H->SqL K H a xs)(hs:∀i x σ H,xs[i]?=some x->b i σ H->g x σ H fun d h=>l {D with nx:=b (i+1),ct:=b (i+1),bk:=D.nx} d h)(hd:∀σ H,b xs.length σ H->D.nx σ H):
 ∃W:Nat->Nat->St->Hp->Prop,(∃m,W 0 m σ H)/\∀i m σ H,W i m σ H->
  ((Itl K a).stop i H/\D.nx σ H)\/((Itl K a).go i H/\∃N:St->Hp->Prop,(∀f H',N f H'->∃j,j<m/\W (i+1) j f H')/\∀x H',(Itl K a).yld i H x H'->g x σ H' fun d h=>l {D with nx:=N,ct:=N,bk:=D.nx} d h):=by
 refine⟨fun i m σ H=>m=xs.length-i/\i<=xs.length/\b i σ H,⟨xs.length,by simp,AH _,h0⟩,?_⟩;rintro i m σ H ⟨rfl,hi,p⟩;have q:=hl i σ H hi p;by_cases c:i<xs.length
 . refine .inr ⟨⟨xs,xs[i],q,by simp[c]⟩,b (i+1),fun f H' n=>⟨xs.length-(i+1),by lia,rfl,c,n⟩,fun x H' y=>?_⟩;obtain⟨e,y⟩:=y;subst e;exact hs i x σ _ (y xs q) p
 . have e:i=xs.length:=by lia
   subst e;exact .inl ⟨⟨xs,q,Aj _⟩,hd σ H p⟩
theorem ac2{K:Ab}{g:TG}{l:TS}{D:Ends}(b:Nat->St->Hp->Prop)(h0:b 0 σ H)(hl:∀i σ H,i<=xs.length->b i σ H->SqT K H a xs)(hs:∀i x σ H,xs[i]?=some x->b i σ H->g x σ H fun d h=>l {D with nx:=b (i+1),ct:=b (i+1),bk:=D.nx} d h)(hd:∀σ H,b xs.length σ H->D.nx σ H):
 ∃W:Nat->Nat->St->Hp->Prop,(∃m,W 0 m σ H)/\∀i m σ H,W i m σ H->
  ((Itt K a).stop i H/\D.nx σ H)\/((Itt K a).go i H/\∃N:St->Hp->Prop,(∀f H',N f H'->∃j,j<m/\W (i+1) j f H')/\∀x H',(Itt K a).yld i H x H'->g x σ H' fun d h=>l {D with nx:=N,ct:=N,bk:=D.nx} d h):=by
 refine⟨fun i m σ H=>m=xs.length-i/\i<=xs.length/\b i σ H,⟨xs.length,by simp,AH _,h0⟩,?_⟩;rintro i m σ H ⟨rfl,hi,p⟩;have q:=hl i σ H hi p;by_cases c:i<xs.length
 . refine .inr ⟨⟨xs,xs[i],q,by simp[c]⟩,b (i+1),fun f H' n=>⟨xs.length-(i+1),by lia,rfl,c,n⟩,fun x H' y=>?_⟩;obtain⟨e,y⟩:=y;subst e;exact hs i x σ _ (y xs q) p
 . have e:i=xs.length:=by lia
   subst e;exact .inl ⟨⟨xs,q,Aj _⟩,hd σ H p⟩
theorem lq{lo:Int}{g:TG}{j:TS}{D:Ends}(a:Nat->St->Hp->Prop)(h0:a 0 σ H)(hs:∀i σ H,i<n->a i σ H->g (.int (lo+i)) σ H fun c f=>j {D with nx:=a (i+1),ct:=a (i+1),bk:=D.nx} c f)(hd:∀σ H,a n σ H->D.nx σ H):
 ∃W:Nat->Nat->St->Hp->Prop,(∃m,W 0 m σ H)/\∀i m σ H,W i m σ H->
  ((Itr lo n).stop i H/\D.nx σ H)\/((Itr lo n).go i H/\∃N:St->Hp->Prop,(∀d H',N d H'->∃h,h<m/\W (i+1) h d H')/\∀x H',(Itr lo n).yld i H x H'->g x σ H' fun c f=>j {D with nx:=N,ct:=N,bk:=D.nx} c f):=by
 refine⟨fun i m σ H=>m=n-i/\i<=n/\a i σ H,⟨n,by simp,AH _,h0⟩,?_⟩;rintro i m σ H ⟨rfl,hi,p⟩;by_cases b:i<n
 . refine .inr ⟨b,a (i+1),fun d H' l=>⟨n-(i+1),by lia,rfl,b,l⟩,fun x H' y=>?_⟩;obtain⟨e,y⟩:=y;subst e y;exact hs i σ _ b p
 . have e:i=n:=by lia
   subst e;exact .inl ⟨Aj _,hd σ H p⟩
abbrev R2:=V->V->Hp->VK->Prop
noncomputable def OpR(X:Cx)(f:KB->KB->Sem KB)(r:R2):Prop :=
 ∀(pins:List (KA×Obj)) (s:KG) (σ:St) (H:Hp) (x y:V) (v u:KB) (Q:VK),Inv X pins σ H s->RelV x v->RelV y u->r x y H Q->
   KC (KE X.prog X.w) X.A (f v u) (EP X pins σ Q) X.xe s
noncomputable def UnR(X:Cx)(f:KB->Sem KB)(r:V->Hp->VK->Prop):Prop :=
 ∀(pins:List (KA×Obj)) (s:KG) (σ:St) (H:Hp) (x:V) (v:KB) (Q:VK),Inv X pins σ H s->RelV x v->r x H Q->
   KC (KE X.prog X.w) X.A (f v) (EP X pins σ Q) X.xe s
noncomputable def ku(X:Cx)(f:KB)(r:List V->Hp->VK->Prop):Prop :=
 ∀(pins:List (KA×Obj)) (s:KG) (σ:St) (H:Hp) (xs:List V) (us:List KB) (Q:VK),Inv X pins σ H s->Vals xs us->r xs H Q->
   KC (KE X.prog X.w) X.A (call f us) (EP X pins σ Q) X.xe s
noncomputable def tOp(r:R2)(ta tb:TE):TE:=fun σ H Q=>ta σ H fun x H1=>tb σ H1 fun y H2=>r x y H2 Q
noncomputable def tUn(r:V->Hp->VK->Prop)(ta:TE):TE:=fun σ H Q=>ta σ H fun x H1=>r x H1 Q
noncomputable def rI(C:Int->Int->Prop)(g:Int->Int->V):R2:=fun x y H Q=>∃i j,x=.int i/\y=.int j/\C i j/\Q (g i j) H
noncomputable def rI0(g:Int->Int->V):R2:=fun x y H Q=>∃i j,x=.int i/\y=.int j/\Q (g i j) H
noncomputable def rU(g:Int->V):V->Hp->VK->Prop:=fun x H Q=>∃i,x=.int i/\Q (g i) H
theorem binT(ha:PE X a D)(hb:PE X b o){R:V->V->Hp->Prop}(I:Inv X c σ H s)(h:D σ H fun x g=>o σ g fun y d=>R x y d){f:KB->KB->Sem KB}(i:∀v u e x y d,Inv X c σ d e->RelV x v->RelV y u->R x y d->KC (KE X.prog X.w) X.A (f v u) Q X.xe e):
 KC (KE X.prog X.w) X.A (eval a X.env) (fun v l=>KC (KE X.prog X.w) X.A (eval b X.env) (fun u m=>KC (KE X.prog X.w) X.A (f v u) Q X.xe m) X.xe l) X.xe s:=by
 refine thn (ha c s σ H _ I h) fun v r ⟨x,g,p,j,n⟩=>?_;refine thn (hb c r σ g _ p n) fun u e ⟨y,d,z,q,C⟩=>?_;exact i v u e x y d z j q C
theorem abe(f:OpR X (Ki op) r)(ha:PE X a m)(hb:PE X b i):PE X (.BinOp a op b pos) (tOp r m i):=by
 intro c s σ H Q I h;exact wpAny_BinOp (binT ha hb I h fun v u e x y j l g d q=>f c e σ j x y v u Q l g d q)
theorem abo(f:UnR X (unaryOp op) r)(ha:PE X a j):PE X (.UnaryOp op a pos) (tUn r j):=by
 intro b s σ H Q I h;exact UnaryOp_ (thn (ha b s σ H _ I h) fun v i ⟨x,c,g,d,e⟩=>f b i σ c x v Q g d e)
theorem opI{g:Int->Int->Int}(a:∀(i j:Int) (t u:Tok) (s:KG) (Q:KB->KG->Prop) (E:KB->KG->Prop),C i j->Q (.int (g i j) s.toks) {s with toks:=s.toks+1}->KC (KE X.prog X.w) X.A (f (.int i t) (.int j u)) Q E s):
 OpR X f (rI C fun i j=>.int (g i j)):=by
 intro b s σ H x y v u Q I d c h;obtain⟨i,j,rfl,rfl,hc,q⟩:=h;obtain⟨t,rfl⟩:=d;obtain⟨t',rfl⟩:=c;exact a i j t t' s _ _ hc ⟨.int (g i j),H,I.tok _,⟨_,rfl⟩,q⟩
theorem opI0{g:Int->Int->Int}(a:∀(i j:Int) (t u:Tok) (s:KG) (Q:KB->KG->Prop) (E:KB->KG->Prop),Q (.int (g i j) s.toks) {s with toks:=s.toks+1}->KC (KE X.prog X.w) X.A (f (.int i t) (.int j u)) Q E s):
 OpR X f (rI0 fun i j=>.int (g i j)):=by
 intro b s σ H x y v u Q I d c h;obtain⟨i,j,rfl,rfl,q⟩:=h;obtain⟨t,rfl⟩:=d;obtain⟨t',rfl⟩:=c;exact a i j t t' s _ _ ⟨.int (g i j),H,I.tok _,⟨_,rfl⟩,q⟩
theorem opB0{g:Int->Int->Bool}(a:∀(i j:Int) (t u:Tok) (s:KG) (Q:KB->KG->Prop) (E:KB->KG->Prop),Q (.bool (g i j)) s->KC (KE X.prog X.w) X.A (f (.int i t) (.int j u)) Q E s):
 OpR X f (rI0 fun i j=>.bl (g i j)):=by
 intro b s σ H x y v u Q I d c h;obtain⟨i,j,rfl,rfl,q⟩:=h;obtain⟨t,rfl⟩:=d;obtain⟨t',rfl⟩:=c;exact a i j t t' s _ _ ⟨.bl (g i j),H,I,rfl,q⟩
noncomputable def CDiv(i j:Int):Prop:=0<j/\j<1073741824
noncomputable def CPow(i j:Int):Prop:=0<=j/\j<=1000000/\i.natAbs<2 ^ 64
noncomputable def CMul(i j:Int):Prop:=(-(2 ^ 64)<i/\i<2 ^ 64)\/(-(2 ^ 64)<j/\j<2 ^ 64)
theorem CMul.ok(h:CMul i j):IntMulOk i j:=by
 rcases h with⟨b,a⟩|⟨b,a⟩
 . exact .of_left (intBits_le_64 b a)
 . exact .of_right (intBits_le_64 b a)
theorem ir:OpR X (Ki .Add) (rI0 fun i j=>.int (i+j)):=opI0 fun _ _ _ _ _ _ _ q=>add_int q
theorem a74:OpR X (Ki .Sub) (rI0 fun i j=>.int (i-j)):=opI0 fun _ _ _ _ _ _ _ q=>sub_int q
theorem ri:OpR X (Ki .Mult) (rI CMul fun i j=>.int (i*j)):=opI fun _ _ _ _ _ _ _ hc q=>mul_int q hc.ok
theorem kg:OpR X (Ki .FloorDiv) (rI CDiv fun i j=>.int (i / j)):=opI fun i j _ _ _ _ _ hc q=>by
 have b:(0:Int)<j:=hc.1;have a:j<1073741824:=hc.2;exact floordiv_int (by lia) (by rw[FK i (by lia)];exact q) (.inl (PyProof.noPylong_small (by lia)))
theorem ji:OpR X (Ki .Mod) (rI (fun _ j=>0<j) fun i j=>.int (i % j)):=opI fun i j _ _ _ _ _ hc q=>by
 have a:(0:Int)<j:=hc;exact mod_int' (by lia) (by rw[Int.fmod_eq_emod_of_nonneg i (by lia)];exact q)
theorem zh:OpR X (Ki .Pow) (rI CPow fun i j=>.int (i ^ j.toNat)):=opI fun _ _ _ _ _ _ _ hc q=>pow_int_small hc.1 hc.2.1 hc.2.2 q
theorem unI{g:Int->Int}(a:∀(i:Int) (t:Tok) (s:KG) (Q:KB->KG->Prop) (E:KB->KG->Prop),Q (.int (g i) s.toks) {s with toks:=s.toks+1}->KC (KE X.prog X.w) X.A (f (.int i t)) Q E s):
 UnR X f (rU fun i=>.int (g i)):=by
 intro b s σ H x v Q I c h;obtain⟨i,rfl,q⟩:=h;obtain⟨t,rfl⟩:=c;exact a i t s _ _ ⟨.int (g i),H,I.tok _,⟨_,rfl⟩,q⟩
theorem jm:UnR X (unaryOp .USub) (rU fun i=>.int (-i)):=unI fun _ _ _ _ _ q=>neg_int q
noncomputable def scal:V->V->Bool
 | .non,.non=>true|.non,.int _=>true|.int _,.non=>true|.non,.bl _=>true|.bl _,.non=>true|.non,.str _=>true|.str _,.non=>true
 | .int _,.int _=>true|.bl _,.bl _=>true|.str _,.str _=>true|.byt _,.byt _=>true
 | .int _,.str _=>true|.str _,.int _=>true|.bl _,.str _=>true|.str _,.bl _=>true
 | _,_=>false
noncomputable def rEq:R2:=fun x y H Q=>scal x y=true/\Q (.bl (decide (x=y))) H
noncomputable def rNe:R2:=fun x y H Q=>scal x y=true/\Q (.bl (!decide (x=y))) H
theorem a3p:decide (V.int i=V.int j)=(i==j):=by
 rw[Ck];simp
theorem a6q:decide (V.bl i=V.bl j)=(i==j):=by
 rw[Ck];simp
theorem a3g:decide (V.str i=V.str j)=(i==j):=by
 rw[Ck];simp
theorem a3t:decide (V.byt i=V.byt j)=(i.toList==j.toList):=by
 rw[Ck];cases i;cases j;simp
theorem iu{k:Bool}(I:Inv X a σ H s)(q:Q (.bl k) H)(e:k=b):EP X a σ Q (.bool b) s:=by
 subst e;exact⟨.bl k,H,I,rfl,q⟩
theorem ig:OpR X (KL .Eq) rEq:=by
 intro c s σ H x y v u Q I b a h;obtain⟨hs,q⟩:=h;cases x with
 | non =>
  cases b;cases y with
  | non=>cases a;exact PySem.EqNone.eq_none_none (iu I q (by simp))
  | bl j=>cases a;exact PySem.EqNone.eq_none_bool (iu I q (by simp))
  | int j=>obtain⟨t',rfl⟩:=a;exact PySem.EqNone.eq_none_int (iu I q (by simp))
  | str j=>obtain⟨t',rfl⟩:=a;exact PySem.EqNone.eq_none_str (iu I q (by simp))
  | _=>exact absurd (show false=true from hs) Ak
 | bl i =>
  cases b;cases y with
  | non=>cases a;exact PySem.EqNone.eq_bool_none (iu I q (by simp))
  | bl j=>cases a;exact eq_bool (iu I q a6q)
  | str j=>obtain⟨t',rfl⟩:=a;exact PySem.EqMixed.eq_bool_str (iu I q (by simp))
  | _=>exact absurd (show false=true from hs) Ak
 | int i =>
  obtain⟨t,rfl⟩:=b;cases y with
  | non=>cases a;exact PySem.EqNone.eq_int_none (iu I q (by simp))
  | int j=>obtain⟨t',rfl⟩:=a;exact eq_int (iu I q a3p)
  | str j=>obtain⟨t',rfl⟩:=a;exact PySem.EqMixed.eq_int_str (iu I q (by simp))
  | _=>exact absurd (show false=true from hs) Ak
 | str i =>
  obtain⟨t,rfl⟩:=b;cases y with
  | non=>cases a;exact PySem.EqNone.eq_str_none (iu I q (by simp))
  | bl j=>cases a;exact PySem.EqMixed.eq_str_bool (iu I q (by simp))
  | int j=>obtain⟨t',rfl⟩:=a;exact PySem.EqMixed.eq_str_int (iu I q (by simp))
  | str j=>obtain⟨t',rfl⟩:=a;exact eq_str (iu I q a3g)
  | _=>exact absurd (show false=true from hs) Ak
 | byt i =>
  obtain⟨t,rfl⟩:=b;cases y with
  | byt j=>obtain⟨t',rfl⟩:=a;exact PySem.W.eq_bytes (iu I q a3t)
  | _=>exact absurd (show false=true from hs) Ak
 | _=>cases y<;>exact absurd (show false=true from hs) Ak
theorem uz:OpR X (KL .NotEq) rNe:=by
 intro c s σ H x y v u Q I b a h;obtain⟨hs,q⟩:=h;cases x with
 | non =>
  cases b;cases y with
  | non=>cases a;exact PySem.EqNone.ne_none_none (iu I q (by simp))
  | bl j=>cases a;exact PySem.EqNone.ne_none_bool (iu I q (by simp))
  | int j=>obtain⟨t',rfl⟩:=a;exact PySem.EqNone.ne_none_int (iu I q (by simp))
  | str j=>obtain⟨t',rfl⟩:=a;exact PySem.EqNone.ne_none_str (iu I q (by simp))
  | _=>exact absurd (show false=true from hs) Ak
 | bl i =>
  cases b;cases y with
  | non=>cases a;exact PySem.EqNone.ne_bool_none (iu I q (by simp))
  | bl j=>cases a;exact ne_bool (iu I q (congrArg not a6q))
  | str j=>obtain⟨t',rfl⟩:=a;exact PySem.EqMixed.ne_bool_str (iu I q (by simp))
  | _=>exact absurd (show false=true from hs) Ak
 | int i =>
  obtain⟨t,rfl⟩:=b;cases y with
  | non=>cases a;exact PySem.EqNone.ne_int_none (iu I q (by simp))
  | int j=>obtain⟨t',rfl⟩:=a;exact ne_int (iu I q (congrArg not a3p))
  | str j=>obtain⟨t',rfl⟩:=a;exact PySem.EqMixed.ne_int_str (iu I q (by simp))
  | _=>exact absurd (show false=true from hs) Ak
 | str i =>
  obtain⟨t,rfl⟩:=b;cases y with
  | non=>cases a;exact PySem.EqNone.ne_str_none (iu I q (by simp))
  | bl j=>cases a;exact PySem.EqMixed.ne_str_bool (iu I q (by simp))
  | int j=>obtain⟨t',rfl⟩:=a;exact PySem.EqMixed.ne_str_int (iu I q (by simp))
  | str j=>obtain⟨t',rfl⟩:=a;exact ne_str (iu I q (congrArg not a3g))
  | _=>exact absurd (show false=true from hs) Ak
 | byt i =>
  obtain⟨t,rfl⟩:=b;cases y with
  | byt j=>obtain⟨t',rfl⟩:=a;exact PySem.W.ne_bytes (iu I q (congrArg not a3t))
  | _=>exact absurd (show false=true from hs) Ak
 | _=>cases y<;>exact absurd (show false=true from hs) Ak
theorem qo:OpR X (KL .Lt) (rI0 fun i j=>.bl (decide (i<j))):=opB0 fun _ _ _ _ _ _ _ q=>lt_int q
theorem xj:OpR X (KL .Gt) (rI0 fun i j=>.bl (decide (j<i))):=opB0 fun _ _ _ _ _ _ _ q=>gt_int q
theorem a84:OpR X (KL .In) (fun x y H Q=>∃i j,x=.str i/\y=.str j/\Q (.bl (!(Builtin.Str.occurrences j i 0 j.length 1).isEmpty)) H):=by
 intro a s σ H x y v u Q I c b h;obtain⟨i,j,rfl,rfl,q⟩:=h;obtain⟨t,rfl⟩:=c;obtain⟨t',rfl⟩:=b;exact in_str (iu I q rfl)
theorem a2g:OpR X (KL .Is) (fun x y H Q=>y=.non/\Q (.bl (decide (x=.non))) H):=by
 intro b s σ H x y v u Q I a c h;obtain⟨rfl,q⟩:=h;cases c;refine is_none_gen (iu I q ?_);cases x<;>first
  | (cases a;rfl)
  | (obtain⟨t,rfl⟩:=a;rfl)
theorem adw:OpR X (KL .IsNot) (fun x y H Q=>y=.non/\Q (.bl (!decide (x=.non))) H):=by
 intro b s σ H x y v u Q I a c h;obtain⟨rfl,q⟩:=h;cases c;refine isnot_none_gen (iu I q ?_);cases x<;>first
  | (cases a;rfl)
  | (obtain⟨t,rfl⟩:=a;rfl)
theorem ly(b:Expr)(h:autoParam (op≠.In) a1_)(a:autoParam (op≠.NotIn) a1_):Kk op b=false:=by
 have d:(op==CmpOp.In)=false:=by cases op<;>first|rfl|exact absurd rfl h
 have c:(op==CmpOp.NotIn)=false:=by cases op<;>first|rfl|exact absurd rfl a
 cases b<;>simp[Kk,d,c]
theorem wp(f:OpR X (KL op) r)(ha:PE X a m)(hb:PE X b i)(hm:Kk op b=false):PE X (.Compare a [op] [b] pos) (tOp r m i):=by
 intro c s σ H Q I h;exact wpAny_Compare1 (binT ha hb I h fun v u e x y j l g d q=>f c e σ j x y v u Q l g d q) hm
noncomputable def t9(t:TE):TT:=fun σ H Q=>t σ H fun x H'=>∃k,x=.bl k/\Q k H'
theorem ue(m:OpR X (KL op) r)(ha:PE X a G)(hb:PE X b E)(hm:Kk op b=false):PT X (.Compare a [op] [b] pos) (t9 (tOp r G E)):=by
 intro d s σ H Q I h;refine HK (thn (ha d s σ H _ I h) fun v q ⟨x,f,n,i,D⟩=>thn (hb d q σ f _ n D) fun u l ⟨y,o,w,p,A⟩ =>
  thn (m d l σ o x y v u _ w i p A) fun c J ⟨z,F,g,j,k,e,C⟩=>?_) hm
 subst e;cases j;exact BN ⟨F,g,C⟩
noncomputable def a8c(r r':R2)(ta tb tc:TE):TE:=fun σ H Q=>ta σ H fun x H1=>tb σ H1 fun y H2=>r x y H2 fun z H3=>∃k,z=.bl k/\
 (if k=true then tc σ H3 fun w' H4=>r' y w' H4 Q else Q (.bl false) H3)
theorem a99(F:OpR X (KL op) r)(i:OpR X (KL g) G)(ha:PE X a ta)(hb:PE X b tb)(hc:PE X c tc)(hm:autoParam (lastMarks [op,g] [b,c]=false) a4_):PT X (.Compare a [op,g] [b,c] pos) (t9 (a8c r G ta tb tc)):=by
 intro f s σ H Q I h;refine isTrue_chain (thn (ha f s σ H _ I h) fun v N ⟨x,o,J,w,q1⟩=>test_link (thn (hb f N σ o _ J q1) fun u D ⟨y,L,P,l,R⟩ =>
  thn (F f D σ L x y v u _ P w l R) fun d s3 ⟨z,n,j,A,k,e,m⟩=>?_)) hm
 subst e;cases A;refine BN ?_;cases k with
 | false =>
  obtain⟨k',T,q'⟩:=m;cases T;exact ite_ff ⟨n,j,q'⟩
 | true =>
  refine ite_tt (test_last (thn (hc f s3 σ n _ j m) fun E S ⟨O,p,C,r4,Z⟩=>thn (i f S σ p y O u E _ C l r4 Z) fun d' s5 ⟨z2,M,Y,W,k2,q,U⟩=>?_));subst q;cases W;exact BN ⟨M,Y,U⟩
theorem u5:(KF:Nat)<2 ^ 63:=by rw[Hr];decide
theorem oh:OpR X (Ki .Add) (fun x y H Q=>∃i j,x=.str i/\y=.str j/\i.length+j.length<=KF/\Q (.str (i++j)) H):=by
 intro a s σ H x y v u Q I c b h;obtain⟨i,j,rfl,rfl,hz,q⟩:=h;obtain⟨t,rfl⟩:=c;obtain⟨t',rfl⟩:=b;exact add_str (fun t' tk=>⟨.str (i++j),H,I.tok _,⟨_,rfl⟩,q⟩) hz
theorem ut{x:V}(r:Vals [x] us):∃u,us=[u]/\RelV x u:=by
 cases r with
 | cons r1 r2=>cases r2;exact⟨_,rfl,r1⟩
structure ObjM(h:KU)(x dx C:KA)(mA:Str->Option KB):Prop where
 obj:h.get? x=some (Cu C dx)
 ns:h.Ns1 dx mA
 ne:dx≠x
theorem a89{h:KU}(n:h.Ns1 dx c):∃od,h.get? dx=some od/\∀name,Fs name od=some (c name):=by
 obtain⟨o,es,ep,i,hd,f,_,hm⟩:=n;refine⟨o,i,fun name=>?_⟩;have e:=hm name;unfold nsFind findBy at e;rw[<- IK] at e;unfold Fs;rw[hd];dsimp only;split
 . rename_i y q;rw[q] at e;exact congrArg some e
 . rename_i q;rw[q] at e;have a:es.toList.any (·.refKey)=false:=by
    rw[List.any_eq_false];intro y d;obtain⟨z,t,b⟩:=f y (Array.mem_toList_iff.mp d);simp[DictEntry.refKey,b]
   have g:¬ es.toList.any (·.refKey)=true:=by rw[a];exact Ak
   rw[if_neg g];exact congrArg some e
theorem ObjM.look{x:KA}(I:ObjM h x dx C a):∃od,PySem.W.InstAt h x (Cu C dx) C (some od)/\∀name,Fs name od=some (a name) :=
 let ⟨od,ho,hl⟩:=a89 I.ns
 ⟨od,⟨I.obj,rfl,rfl,ho⟩,hl⟩
theorem ac1{K:Ab}{x:KA}(X:K.In s.heap)(I:ObjM s.heap x dx C c)(d:Dg K C name=true)(f:DC K C=true)(ha:AR K (.ref C) name=some none)(e:c name=some v)(a:Jq v=true)(h:Q v {s with toks:=s.toks+1}):
 KC (KE prog w) A (getAttr (.ref x) name b) Q E s:=by
 obtain⟨od,J,hl⟩:=I.look;exact PySem.W.get_value X J (Fm d).1 (PySem.W.findObj_own f ha rfl (by rw[hl,e])) a h
theorem a9s{K:Ab}{x:KA}{pl:Sem Bool}(X:K.In s.heap)(I:ObjM s.heap x dx C b)(a:Dg K C name=true)(c:AR K (.ref C) name=some (some (.ref f)))(ht:DJ K (.ref f)=true)(d:b name=none)(h:Q (.ref f,[.ref x]) s):
 KC (KE prog w) A (getMethod (.ref x) name pl) Q E s:=by
 obtain⟨od,J,hl⟩:=I.look;exact PySem.W.method_fn X J (Fm a).1 (Fm a).2 c (beq_iff_eq.mp ht) (by show (Fs name od).map (·.isSome)=some false;rw[hl,d];rfl) h
theorem acr{K:Ab}{x:KA}(X:K.In s.heap)(I:ObjM s.heap x dx C j)(hs:AR K (.ref C) "__setattr__"=some (some (.builtin "object.__setattr__")))(hp:E9 K C=true)(ht:Hh K C name=some none)(o:DC K C=true)(hw:IH j ns)(hsz:ns.length<=KF)(h:∀h',ObjM h' x dx C (fun y=>if y=name then some v else j y)->Cn dx s.heap h'->Q () {s with heap:=h',toks:=s.toks+2}):
 KC (KE prog w) A (setAttr (.ref x) name v) Q E s:=by
 obtain⟨od,J,hl⟩:=I.look;refine PySem.W.set_plain X J hs (PySem.W.osa_open (s:={s with toks:=s.toks+1}) (r:=none) X J hp ht fun b=>?_);obtain⟨cd,hc,i⟩:=PySem.W.any_some o;have m:s.heap.get? x=some ⟨.ref C,some dx,.plain,#[]⟩:=I.obj;refine Aa (Ae (Aa (Aa (wpAny_loadPart m (Aa (PySem.W.Looks.here (s:={s with toks:=s.toks+1}) (PySem.W.looks_clsIn X hc) ?_))))));rw[i];refine Ae (a:=some dx) (Aa (Ae (Aa ?_)));refine wpAny_nsSet1 (s:={s with toks:=s.toks+1}) I.ns fun h' d c=>?_;obtain⟨p,n,l,g,e,f⟩:=d.count (PySem.Within.cons name v hw);refine Aa (wpAny_lookBehind g (by rw[e];exact pastItsLine_dict (Aw f (by rw[AB];lia))) ?_);exact Ae (h _ ⟨(c.2 _ (AO I.ne)).trans I.obj,d,I.ne⟩ c)
theorem a9k{K:Ab}(X:K.In s.heap)(hm:Fc K C=true)(hi:AR K (.ref C) "__init__"=some (some (.ref f)))(b:PySem.W.typeIn K (.ref f)=some (.type "function"))(h:Km (KE prog w) (A.under (.builtin "type.__call__" ⟨.ref C::vs,a⟩)) (.call (.ref f) ⟨.ref (s.heap.objs.size+1)::vs,a⟩) (PySem.W.InitBack (s.heap.objs.size+1) R)
 {s with heap:=(s.heap.push BX).push (Cu C s.heap.objs.size)}):
 Km (KE prog w) A (.call (.ref C) ⟨vs,a⟩) R s:=by
 obtain⟨c,g,d,t,os⟩:=s;exact PySem.W.make_core (PySem.W.makes_of X hm) (PySem.W.looks_findIn X hi) (fun self=>PySem.W.bind_fn X self b) (.inl rfl) h
noncomputable def putF(f:Str)(v:V):List (Str×V)->List (Str×V)
 | []=>[(f,v)]
 | (g,x)::r=>if g=f then (g,v)::r else (g,x)::putF f v r
theorem gn(f g:Str)(v:V):∀fs:List (Str×V),(putF f v fs).lookup g=if g=f then some v else fs.lookup g
 | []=>by
  show DY g [(f,v)]=_;by_cases h:g=f
  . have hb:(g==f)=true:=beq_iff_eq.mpr h;simp only[DY,hb,if_pos h]
  . have hb:(g==f)=false:=beq_eq_false_iff_ne.mpr h;simp only[DY,hb,if_neg h]
 | (k,x)::r=>by
  have b:=gn f g v r;rw[show putF f v ((k,x)::r)=(if k=f then (k,v)::r else (k,x)::putF f v r) from rfl];by_cases a:k=f
  . rw[if_pos a];by_cases h:g=k
    . have hb:(g==k)=true:=beq_iff_eq.mpr h;simp only[DY,hb,if_pos (h.trans a)]
    . have hb:(g==k)=false:=beq_eq_false_iff_ne.mpr h;simp only[DY,hb,if_neg (fun e:g=f=>h (e.trans a.symm))]
  . rw[if_neg a];by_cases h:g=k
    . have hb:(g==k)=true:=beq_iff_eq.mpr h;simp only[DY,hb,if_neg (fun e:g=f=>a (h.symm.trans e))]
    . have hb:(g==k)=false:=beq_eq_false_iff_ne.mpr h;simp only[DY,hb];exact b
theorem vb(f:Str)(v:V):∀fs:List (Str×V),f∈(putF f v fs).map (·.1)/\∀g,g∈fs.map (·.1)->g∈(putF f v fs).map (·.1)
 | []=>⟨by simp[putF],fun g h=>by simp at h⟩
 | (k,x)::r=>by
  obtain⟨c,b⟩:=vb f v r;rw[show putF f v ((k,x)::r)=(if k=f then (k,v)::r else (k,x)::putF f v r) from rfl];by_cases a:k=f
  . rw[if_pos a];subst a;exact⟨by simp,fun g h=>by simpa using h⟩
  . rw[if_neg a];refine⟨?_,fun g h=>?_⟩
    . rw[As];exact Al _ c
    . rw[As] at h |-;rcases Ah.mp h with e|e
      . exact List.mem_cons.mpr (.inl e)
      . exact Al _ (b g e)
theorem jf(f:Str)(v:V):∀fs:List (Str×V),(putF f v fs).length<=fs.length+1
 | []=>by simp[putF]
 | (k,x)::r=>by
  have b:=jf f v r;rw[show putF f v ((k,x)::r)=(if k=f then (k,v)::r else (k,x)::putF f v r) from rfl];by_cases a:k=f
  . rw[if_pos a,AB,AB];lia
  . rw[if_neg a,AB,AB];lia
theorem RelO.some_of(r:RelO (some v) o):∃u,o=some u/\RelV v u:=by
 cases o with
 | none=>exact (show False from r).elim
 | some u=>exact⟨u,rfl,r⟩
theorem RelO.none_of(r:RelO none o):o=none:=by
 cases o with
 | none=>rfl
 | some u=>exact (show False from r).elim
theorem a5v(r:RelV v u):Jq u=true:=by
 cases v with
 | non=>cases (show u=Value.none from r);rfl
 | bl b=>cases (show u=Value.bool b from r);rfl
 | int i=>obtain⟨t,e⟩:=(show ∃t,u=Value.int i t from r);cases e;rfl
 | str x=>obtain⟨t,e⟩:=(show ∃t,u=Value.str x t from r);cases e;rfl
 | byt b=>obtain⟨t,e⟩:=(show ∃t,u=Value.bytes b t from r);cases e;rfl
 | flt b=>obtain⟨t,e⟩:=(show ∃t,u=Value.float b t from r);cases e;rfl
 | ref a=>cases (show u=Value.ref a from r);rfl
 | ty n=>cases (show u=Value.type n from r);rfl
theorem a08{fs:List (Str×V)}(hok:HOk P w H h)(e:H a=some (.ins C dx fs)):∃b,ObjM h a dx C b/\(∀f,RelO (fs.lookup f) (b f))/\IH b (fs.map (·.1))/\fs.length<=1000/\H dx=some (.own a):=by
 obtain⟨d,z,ne,ob,b,n,r,q⟩:=(show ObjOk P w H h a (.ins C dx fs) from hok a _ e)
 exact⟨b,⟨ob,n,ne⟩,r,q,z,d⟩
structure Cls(K:Ab)(C:KA):Prop where
 pg:Dg K C JN=true
 hd:DC K C=true
 po:E9 K C=true
 sa:AR K (.ref C) "__setattr__"=some (some (.builtin "object.__setattr__"))
theorem Cls.get{K:Ab}(c:Cls K C)(f:Str):Dg K C f=true:=c.pg
noncomputable def NoAttr(K:Ab)(C:KA)(f:Str):Prop:=AR K (.ref C) f=some none
theorem NoAttr.taker{K:Ab}(n:NoAttr K C f):Hh K C f=some none:=by
 unfold Hh;rw[show AR K (.ref C) f=some none from n];rfl
structure Con(K:Ab)(C:KA)(f:Str)(v:V)(u:KB):Prop where
 at_:AR K (.ref C) f=some (some u)
 rel:RelV v u
 get:PySem.W.specialIn K u "__get__"=some none
 cp:PySem.W.copiedNames.contains f=false
structure Meth(K:Ab)(C:KA)(m:Str)(f:KA):Prop where
 at_:AR K (.ref C) m=some (some (.ref f))
 fn:DJ K (.ref f)=true
 kp:Cs K (.ref f)=true
theorem a4u{fs:List (Str×V)}(I:Inv X d σ H s)(e:H a=some (.ins C dx fs))(c:Cls X.K C)(n:NoAttr X.K C f)(l:fs.lookup f=some v)(h:∀u s',Inv X d σ H s'->RelV v u->Q u s'):KC (KE X.prog X.w) A (getAttr (.ref a) f b) Q E s:=by
 obtain⟨i,O,r,_,_,_⟩:=a08 I.hok e;obtain⟨u,j,g⟩:=RelO.some_of (v:=v) (o:=i f) (by rw[<- l];exact r f);exact ac1 I.kIn O (c.get f) c.hd n j (a5v g) (h u _ (I.tok _) g)
theorem zr{fs:List (Str×V)}{pl:Sem Bool}(I:Inv X b σ H s)(e:H a=some (.ins C dx fs))(c:Cls X.K C)(k:Meth X.K C m g)(l:fs.lookup m=none)(h:Q (.ref g,[.ref a]) s):KC (KE X.prog X.w) A (getMethod (.ref a) m pl) Q E s:=by
 obtain⟨d,O,r,_,_,_⟩:=a08 I.hok e;have hn:d m=none:=RelO.none_of (by rw[<- l];exact r m);exact a9s I.kIn O (c.get m) k.at_ k.fn hn h
theorem a5s{fs:List (Str×V)}(I:Inv X d σ H s)(e:H a=some (.ins C dx fs))(c:Cls X.K C)(n:NoAttr X.K C f)(hl:fs.length<1000)(v:RelV y u)(h:∀s',Inv X d σ (upd H a (.ins C dx (putF f y fs))) s'->Q () s'):KC (KE X.prog X.w) A (setAttr (.ref a) f u) Q E s:=by
 obtain⟨j,O,r,m,_,l⟩:=a08 I.hok e;have hz:(fs.map (·.1)).length<=KF:=by rw[Ad,Hr];lia
 refine acr I.kIn O c.sa c.po n.taker c.hd m hz fun h' i p=>h _ ?_;have hd:∃o,h'.get? dx=some o:=let ⟨o,_,_,e',_⟩:=i.ns;⟨o,e'⟩;refine I.write (x:=a) (e:=dx) (by rw[e];exact True.intro) (.inr l) (fun b q hb z=>(p.2 b hb).trans z) hd ?_;refine⟨by rw[f6 O.ne];exact l,?_,O.ne,i.obj,_,i.ns,fun g=>?_,fun g D=>?_⟩
 . have:=jf f y fs;lia
 . show RelO ((putF f y fs).lookup g) (if g=f then some u else j g);rw[gn];by_cases q:g=f
   . rw[if_pos q,if_pos q];exact v
   . rw[if_neg q,if_neg q];exact r g
 . by_cases q:g=f
   . rw[q];exact (vb f y fs).1
   . refine (vb f y fs).2 g (m g fun z=>D ?_);show (if g=f then some u else j g)=none;rw[if_neg q];exact z
theorem Inv.made(I:Inv X c σ H s):Inv X c σ (upd (upd H s.heap.objs.size (.own (s.heap.objs.size+1))) (s.heap.objs.size+1) (.ins C s.heap.objs.size []))
 {s with heap:=(s.heap.push BX).push (Cu C s.heap.objs.size)}:=by
 have d:(s.heap.push BX).get? s.heap.objs.size=some BX:=An s.heap rfl;have f:((s.heap.push BX).push (Cu C s.heap.objs.size)).get? (s.heap.objs.size+1)=some (Cu C s.heap.objs.size):=by
  have:=An (s.heap.push BX) (o:=Cu C s.heap.objs.size) rfl
  rwa [Br] at this
 have i:(s.heap.push BX).Ns s.heap.objs.size (fun _=>none):=⟨BX,#[],_,d,rfl,(fun e g=>absurd g (by simp)),fun _=>rfl⟩
 have j:=I.laid (a:=s.heap.objs.size) (o:=.own (s.heap.objs.size+1)) (h':=s.heap.push BX) (t':=s.toks) (fun b u q=>Ac _ q) (Aj _) ⟨_,d⟩;refine j.laid (a:=s.heap.objs.size+1) (o:=.ins C s.heap.objs.size []) (t':=s.toks) (fun b u q=>Ac _ q) (IL (Br _ _)) ?_;have ne:s.heap.objs.size≠s.heap.objs.size+1:=AC (Ce _);refine⟨by rw[f6 ne,g8],AH _,ne,f,fun _=>none,(Heap.Ns1.of_empty i).at fun o q=>Ac _ q,fun _=>True.intro,fun y h=>absurd rfl h⟩
theorem add(hb:KQ e f env (eval e env)=eval e env)(h:KC (KE prog w) A (eval e env) (fun o a=>KC (KE prog w) A (getAttr o f true) Q E a) E s):KC (KE prog w) A (eval (.Attribute e f pos) env) Q E s :=
 Attribute_any_ h (by rw[arm_eval_Attribute,hb])
noncomputable def tFld(K:Ab)(ta:TE)(f:Str):TE:=fun σ H Q=>ta σ H fun x H1=>∃a C dx fs v,x=.ref a/\H1 a=some (.ins C dx fs)/\Cls K C/\NoAttr K C f/\fs.lookup f=some v/\Q v H1
noncomputable def sFld(K:Ab)(ta tv:TE)(f:Str):TS:=fun D σ H=>tv σ H fun y H1=>ta σ H1 fun x H2=>∃a C dx fs,x=.ref a/\H2 a=some (.ins C dx fs)/\Cls K C/\NoAttr K C f/\fs.length<1000/\
 D.nx σ (upd H2 a (.ins C dx (putF f y fs)))
theorem af4(i:PE X e r)(hb:KQ e f X.env (eval e X.env)=eval e X.env):PE X (.Attribute e f pos) (tFld X.K r f):=by
 intro b s σ H Q I h;refine add hb (thn (i b s σ H _ I h) fun u z ⟨x,d,m,j,a,C,dx,fs,v,ex,o,c,n,l,q⟩=>?_);subst ex;obtain rfl:u=Value.ref a:=j;exact a4u m o c n l fun w y p g=>⟨v,d,p,g,q⟩
theorem aew(ha:PE X o F)(i:PE X value A)(hs:Kn value (some (.Attribute o f d)) pos.line X.env=pure false):PS X (.Assign [.Attribute o f d] value pos) (sFld X.K F A f):=by
 intro b s σ H D I h;refine plainObj_wpAny_Assign_Attribute (thn (i b s σ H _ I h) fun u r ⟨y,e,m,z,q⟩=>thn (ha b r σ e _ m q) fun E G ⟨x,J,v,j,a,C,dx,fs,ex,p,c,n,l,w⟩=>?_) hs;subst ex;obtain rfl:E=Value.ref a:=j;exact a5s v p c n l z fun L g=>⟨σ,_,g,w⟩
structure Room(k:Nat)(A:Kq):Prop where
 hd:A.handled=none
 dp:A.depth+3*k+5<recursionLimit
 un:A.units+16*k+200<cLine
theorem Room.mono{k:Nat}(r:Room k A)(h:j<=k):Room j A:=⟨r.hd,by have:=r.dp;lia,by have:=r.un;lia⟩
theorem Room.deeper{k:Nat}(r:Room (k+1) A)(env:Env):Room k (A.deeper env) :=
 ⟨r.hd,by have:=r.dp;show A.depth+1+3*k+5<_;lia,by have:=r.un;show A.units+3+16*k+200<_;lia⟩
theorem a5r{A:Kq}:(A.under (.builtin "type.__call__" ⟨.ref C::us,a⟩)).depth=A.depth+1:=by
 first|rfl|simp[IM,Code.weight,Code.isCreation,Code.isGuard,Code.isCaller,Kd,IP,guardIds]
theorem a4x{A:Kq}:(A.under (.builtin "type.__call__" ⟨.ref C::us,a⟩)).units=A.units+1:=by
 first|rfl|simp[IM,Code.cUnits,Kd,IP]
theorem Room.make{k:Nat}(r:Room (k+1) A)(C:KA)(us:List KB)(a:List (Str×KB)):Room k (A.under (.builtin "type.__call__" ⟨.ref C::us,a⟩)) :=
 ⟨r.hd,by have:=r.dp;rw[a5r];lia,by have:=r.un;rw[a4x];lia⟩
theorem Room.depth{k:Nat}(r:Room k A):A.depth<recursionLimit:=by have:=r.dp;lia
theorem Room.units{k:Nat}(r:Room k A):A.units+64<cLine:=by have:=r.un;lia
noncomputable def tNil:TA:=fun _ H Q=>Q [] H
noncomputable def iz(ta:TE)(tr:TA):TA:=fun σ H Q=>ta σ H fun x H1=>tr σ H1 fun xs H2=>Q (x::xs) H2
theorem q5:PA X [] tNil:=fun _ _ _ _ H Q I h=>EA ⟨[],H,I,.nil,h⟩
theorem kd{t:TA}(ha:PE X e d)(hr:PA X es t)(hs:autoParam (KD (e::es) X.env=(false,eval e X.env)::KD es X.env) a3_):PA X (e::es) (iz d t):=by
 intro pos a s σ H Q I h;rw[hs];show KC _ _ (spliced ((false,eval e X.env)::KP pos (KD es X.env))) _ _ s;refine Dv (thn (ha a s σ H _ I h) fun u l ⟨x,b,g,c,f⟩=>?_);exact thn (hr pos a l σ b _ g f) fun us o ⟨xs,i,m,j,n⟩=>⟨x::xs,i,m,.cons c j,n⟩
noncomputable def tTup(t:TA):TE:=fun σ H Q=>t σ H fun xs H1=>xs.length<=KF/\∀p,H1 p=none->Q (.ref p) (upd H1 p (.tup xs))
noncomputable def tLst(t:TA):TE:=fun σ H Q=>t σ H fun xs H1=>xs.length<=KF/\∀p,H1 p=none->Q (.ref p) (upd H1 p (.lst xs))
theorem a7l{t:TA}{x1}(h:PA X es t):PE X (.Tuple es x1 pos) (tTup t):=by
 intro a s σ H Q I hq;refine wpAny_Tuple_spliced (thn (h pos a s σ H _ I hq) fun us c ⟨xs,d,f,r,z,q⟩=>⟨by rw[<- r.length];exact z,?_⟩);have g:d c.heap.objs.size=none:=f.hok.fresh (Aj _);refine⟨.ref c.heap.objs.size,upd d c.heap.objs.size (.tup xs),f.laid (t':=c.toks) (fun b u e=>Ac _ e) (Aj _) ?_,rfl,q _ g⟩;exact⟨z,us,r,⟨_,An _ rfl,rfl,_,rfl⟩⟩
theorem a1k{t:TA}(h:PA X es t):PE X (.List es pos) (tLst t):=by
 intro a s σ H Q I hq;refine wpAny_List_spliced (thn (h pos a s σ H _ I hq) fun us c ⟨xs,d,f,r,z,q⟩=>⟨by rw[<- r.length];exact z,?_⟩);have g:d c.heap.objs.size=none:=f.hok.fresh (Aj _);refine⟨.ref c.heap.objs.size,upd d c.heap.objs.size (.lst xs),f.laid (t':=c.toks) (fun b u e=>Ac _ e) (Aj _) ?_,rfl,q _ g⟩;exact⟨z,us,0,r,An _ rfl⟩
abbrev Sp:=List V->Hp->VK->XK->Prop
abbrev CXT:=List Env->Hp->KG->XK->KB->KG->Prop
structure Env0(P:KZ)(w:KY)(K:Ab)(mg:Str->Option KB)(base:KU)(A:Kq)(outer:List Env)(s:KG)(H:Hp):Prop where
 frames:A.frames=some outer
 mod:Mod K mg base
 bs:∀b o,base.get? b=some o->s.heap.get? b=some o/\H b=none
 bsz:base.objs.size<=s.heap.objs.size
 funs:s.heap.FunFrames base outer
 frf:∀b∈frs outer,H b=none
 hok:HOk P w H s.heap
 bare:AllBare s.gens
noncomputable def CE(outer:List Env)(P:KZ)(w:KY)(H:Hp)(s:KG)(Q:VK)(u:KB)(s':KG):Prop :=
 ∃v H',s'.os=s.os/\AllBare s'.gens/\Un (frs outer) [] H H' s.heap s'.heap/\HOk P w H' s'.heap/\RelV v u/\Q v H'
noncomputable def CR(CX:CXT)(outer:List Env)(P:KZ)(w:KY)(H:Hp)(s:KG)(Q:VK)(E:XK)(r:Result)(s':KG):Prop :=
 match r with
 | .ok (.ret u)=>CE outer P w H s Q u s'
 | .ok _=>False
 | .error e=>CX outer H s E e s'
structure FnOk(P:KZ)(w:KY)(K:Ab)(mg:Str->Option KB)(base:KU)(CX:CXT)(k:Nat)(f:KA)(fd:Kr)(ps:List Str)(sp:Sp):Prop where
 len:∀vs H Q E,sp vs H Q E->vs.length=ps.length
 run:∀(A:Kq) (outer:List Env) (s:KG) (H:Hp) (args:Args) (us:List KB) (vs:List V) (Q:VK) (E:XK),Room k A->Env0 P w K mg base A outer s H->BindsTo s fd args (ps.zip us)->Vals vs us->sp vs H Q E->
  Km (KE P w) A (.call (.ref f) args) (CR CX outer P w H s Q E) s
theorem FnOk.mono{K:Ab}{k:Nat}(F:FnOk P w K mg base CX j f fd ps sp)(h:j<=k):
 FnOk P w K mg base CX k f fd ps sp:=⟨F.len,fun A outer s H args us vs Q E hr=>F.run A outer s H args us vs Q E (hr.mono h)⟩
theorem Env0.make{K:Ab}(e:Env0 P w K mg base A outer s H)(C:KA)(us:List KB)(a:List (Str×KB)):
 Env0 P w K mg base (A.under (.builtin "type.__call__" ⟨.ref C::us,a⟩)) outer s H:=⟨by first|exact e.frames|(simpa [IM,Code.envs,IP,pushEnvs] using e.frames),e.mod,e.bs,e.bsz,e.funs,e.frf,e.hok,e.bare⟩
theorem Inv.env0(I:Inv X a σ H s):Env0 X.prog X.w X.K X.mg X.base X.A X.stack s H :=
 ⟨I.ok.frames,I.ok.mod,I.bs,Aw I.ok.bsz I.sz,I.stack,I.stkFree,I.hok,I.bare⟩
theorem Inv.after(I:Inv X a σ H s)(h:CE X.stack X.prog X.w H s Q u s'):EP X a σ Q u s':=by
 obtain⟨v,H',os,bare,un,hok,r,q⟩:=h;obtain⟨e,g,d,t,c⟩:=s';obtain rfl:c=s.os:=os;exact⟨v,H',I.call (h':=e) (g':=g) (d':=d) (t':=t) (ch:=[]) un hok bare (fun b z=>absurd z (by simp)),r,q⟩
noncomputable def zt(sp:Sp)(dvs:List V)(E:XK)(t:TA):TE:=fun σ H Q=>t σ H fun vs H1=>sp (vs++dvs) H1 Q E
noncomputable def ph(C:KA)(m:Str)(sp:Sp)(dvs:List V)(E:XK)(ta:TE)(t:TA):TE:=fun σ H Q=>ta σ H fun x H1=>∃a dx fs,x=.ref a/\H1 a=some (.ins C dx fs)/\fs.lookup m=none/\
 t σ H1 fun vs H2=>sp (x::(vs++dvs)) H2 Q E
noncomputable def a4v(C:KA)(sp:Sp)(dvs:List V)(E:XK)(t:TA):TE:=fun σ H Q=>t σ H fun vs H1=>∀x dx,H1 x=none->H1 dx=none->dx≠x->
 sp (.ref x::(vs++dvs)) (upd (upd H1 dx (.own x)) x (.ins C dx [])) (fun v H2=>v=.non/\Q (.ref x) H2) E
noncomputable def Binds(K:Ab)(fd:Kr)(ps:List Str)(ds:List KB):Prop :=
 ∀(s:KG) (us:List KB),K.In s.heap->(us++ds).length=ps.length->BindsTo s fd ⟨us,[]⟩ (ps.zip (us++ds))
theorem Binds.all{K:Ab}(h:∀us:List KB,us.length=ps.length->bindArgs fd ⟨us,[]⟩=pure (ps.zip us)):Binds K fd ps []:=fun s us _ hl=>by
 rw[Dw] at hl |-;exact .of_eq (h us hl)
noncomputable def ml(CX:CXT)(X:Cx)(E:XK):Prop:=∀(pins:List (KA×Obj)) (σ:St) (H:Hp) (s:KG) (e:KB) (s':KG),Inv X pins σ H s->CX X.stack H s E e s'->X.xe e s'
section
theorem a2f{k:Nat}(F:FnOk X.prog X.w X.K X.mg X.base CX k f fd ps sp)(hr:Room k X.A)(hb:Binds X.K fd ps ds)(hd:Vals dvs ds)(c:ml CX X E)(I:Inv X a σ H s)(r:Vals vs us)(h:sp (vs++dvs) H Q E):KC (KE X.prog X.w) X.A (call (.ref f) us) (EP X a σ Q) X.xe s:=by
 have b:Vals (vs++dvs) (us++ds):=r.append hd;have hl:(us++ds).length=ps.length:=by rw[<- b.length];exact F.len _ _ _ _ h
 refine Ig (DK (F.run X.A X.stack s H ⟨us,[]⟩ (us++ds) (vs++dvs) Q E hr I.env0 (hb s us I.kIn hl) b h) fun r s' hq=>?_);cases r with
 | error e=>exact c a σ H s e s' I hq
 | ok fl =>
  cases fl with
  | ret u=>exact I.after hq
  | next=>exact Co hq
  | brk=>exact Co hq
  | cont=>exact Co hq
theorem ade{k:Nat}{x:Str}{t:TA}(F:FnOk X.prog X.w X.K X.mg X.base CX k f fd ps sp)(hr:Room k X.A)(l:Gl X x)(hm:X.mg x=some (.ref f))(i:Cs X.K (.ref f)=true)(hb:Binds X.K fd ps ds)(hd:Vals dvs ds)(j:ml CX X E)(ha:PA X (e::es) t)(c:autoParam ((x==("__debug__":Str))=false) a1_)(g:autoParam (KD (e::es) X.env=(false,eval e X.env)::KD es X.env) a3_)(b:autoParam ((KP pos (KD es X.env)).any (·.1)=false) a3_):
 PE X (.Call (.Name x p) (e::es) [] pos) (zt sp dvs E t):=by
 intro a s σ H Q I h;refine Dx (a04 I l hm ?_ c);refine FA (h₀:=X.base) I.ok.mod.kin i (thn (ha pos a s σ H _ I h) fun us n ⟨vs,m,d,r,q⟩=>⟨d.kIn,?_⟩) g b;exact a2f F hr hb hd j d r q
theorem ads{k:Nat}{t:TA}{pl:Sem Bool}(y:PE X o M)(c:Cls X.K C)(hm:Meth X.K C m f)(F:FnOk X.prog X.w X.K X.mg X.base CX k f fd ps sp)(hr:Room k X.A)(hb:Binds X.K fd ps ds)(hd:Vals dvs ds)(L:ml CX X E)(ha:PA X (e::es) t)(g:autoParam (KD (e::es) X.env=(false,eval e X.env)::KD es X.env) a3_)(i:autoParam ((KP pos (KD es X.env)).any (·.1)=false) a3_)(ht:autoParam (eval (.Call (.Attribute o m d) (e::es) [] pos) X.env=(do
 let p<-eval o X.env
 standAt d.atName
 let (f,first)<-holding [p] (getMethod p m pl)
 callWith pos f first (KP pos (KD (e::es) X.env)) (Kj pos (KO [] X.env)))) a3_):
 PE X (.Call (.Attribute o m d) (e::es) [] pos) (ph C m sp dvs E M t):=by
 intro b s σ H Q I h;refine HM (pl:=pl) (thn (y b s σ H _ I h) fun u G ⟨x,v,j,z,a,dx,fs,ex,D,l,q⟩=>?_) ht;subst ex;obtain rfl:u=Value.ref a:=z;refine zr j D c hm l ?_;refine FA (first:=[.ref a]) (h₀:=X.base) I.ok.mod.kin hm.kp (thn (ha pos b G σ v _ j q) fun us N ⟨vs,O,n,r,J⟩=>⟨n.kIn,?_⟩) g i;exact a2f (us:=.ref a::us) (vs:=.ref a::vs) F hr hb hd L n (.cons rfl r) J
theorem a9v{k:Nat}{pl:Sem Bool}(i:PE X o r)(c:Cls X.K C)(hm:Meth X.K C m f)(F:FnOk X.prog X.w X.K X.mg X.base CX k f fd ps sp)(hr:Room k X.A)(hb:Binds X.K fd ps ds)(hd:Vals dvs ds)(p:ml CX X E)(ht:autoParam (eval (.Call (.Attribute o m b) [] [] pos) X.env=(do
 let g<-eval o X.env
 standAt b.atName
 let (f,first)<-holding [g] (getMethod g m pl)
 callWith pos f first (KP pos (KD [] X.env)) (Kj pos (KO [] X.env)))) a3_):
 PE X (.Call (.Attribute o m b) [] [] pos) (ph C m sp dvs E r tNil):=by
 intro d s σ H Q I h;refine HM (pl:=pl) (thn (i d s σ H _ I h) fun u y ⟨x,v,e,j,a,dx,fs,ex,n,l,q⟩=>?_) ht;subst ex;obtain rfl:u=Value.ref a:=j;refine zr e n c hm l ?_;exact PySem.W.callWith_K0 (first:=[.ref a]) e.kIn hm.kp (a2f (us:=[.ref a]) (vs:=[.ref a]) F hr hb hd p e (.cons rfl .nil) q)
structure Mk(K:Ab)(C f:KA):Prop where
 makes:Fc K C=true
 init:AR K (.ref C) "__init__"=some (some (.ref f))
 fn:DJ K (.ref f)=true
 kp:Cs K (.ref C)=true
theorem a8x{k:Nat}(M:Mk X.K C f)(F:FnOk X.prog X.w X.K X.mg X.base CX k f fd ps sp)(hr:Room (k+1) X.A)(hb:Binds X.K fd ps ds)(hd:Vals dvs ds)(l:ml CX X E)(I:Inv X b σ H s)(r:Vals vs us)(h:∀x dx,H x=none->H dx=none->dx≠x->sp (.ref x::(vs++dvs)) (upd (upd H dx (.own x)) x (.ins C dx [])) (fun v j=>v=.non/\Q (.ref x) j) E):
 KC (KE X.prog X.w) X.A (call (.ref C) us) (EP X b σ Q) X.xe s:=by
 have hq:=h (s.heap.objs.size+1) s.heap.objs.size (I.hok.fresh (Bs _)) (I.hok.fresh (Aj _)) (AC (Ce _));have c:=Inv.made (C:=C) I;have d:Vals (V.ref (s.heap.objs.size+1)::(vs++dvs)) (Value.ref (s.heap.objs.size+1)::(us++ds)):=.cons rfl (r.append hd);have hl:(Value.ref (s.heap.objs.size+1)::us++ds).length=ps.length:=by
  have e:=d.length;rw[F.len _ _ _ _ hq] at e;exact e.symm
 refine Ig (a9k (f:=f) I.kIn M.makes M.init (beq_iff_eq.mp M.fn) (DK (F.run _ X.stack _ _ ⟨Value.ref (s.heap.objs.size+1)::us,[]⟩ (Value.ref (s.heap.objs.size+1)::(us++ds)) _ _ E (hr.make C us [])
  (c.env0.make C us []) (hb _ (Value.ref (s.heap.objs.size+1)::us) c.kIn hl) d hq) fun r s' a=>?_))
 cases r with
 | error e=>exact l b σ _ _ e s' c a
 | ok fl =>
  cases fl with
  | ret u =>
   obtain⟨v,H',g,n,i,m⟩:=c.after a;subst i;exact⟨n,⟨V.ref (s.heap.objs.size+1),H',g,rfl,m⟩⟩
  | next=>exact Co a
  | brk=>exact Co a
  | cont=>exact Co a
variable{X:Cx}{CX:CXT}{k:Nat}{f C:KA}{fd:Kr}{ps:List Str}{sp:Sp}{dvs:List V}{ds:List KB}{E:XK}{x:Str}{p pos:Pos}{e:Expr}{es:List Expr}{t:TA} in
theorem ac6(M:Mk X.K C f)(F:FnOk X.prog X.w X.K X.mg X.base CX k f fd ps sp)(hr:Room (k+1) X.A)(hg:Gl X x)(hm:X.mg x=some (.ref C))(hb:Binds X.K fd ps ds)(hd:Vals dvs ds)(hx:ml CX X E)(ha:PA X (e::es) t)(hdb:autoParam ((x==("__debug__":Str))=false) a1_)(he:autoParam (KD (e::es) X.env=(false,eval e X.env)::KD es X.env) a3_)(hpl:autoParam ((KP pos (KD es X.env)).any (·.1)=false) a3_):
 PE X (.Call (.Name x p) (e::es) [] pos) (a4v C sp dvs E t):=by
 intro pins s σ H Q I h;refine Dx (a04 I hg hm ?_ hdb);refine FA (h₀:=X.base) I.ok.mod.kin M.kp (thn (ha pos pins s σ H _ I h) fun us s1 ⟨vs,H1,I1,r,q⟩=>⟨I1.kIn,?_⟩) he hpl;exact a8x M F hr hb hd hx I1 r q
variable{X:Cx}{CX:CXT}{k:Nat}{f C:KA}{fd:Kr}{ps:List Str}{sp:Sp}{dvs:List V}{ds:List KB}{E:XK}{x:Str}{p pos:Pos} in
end
noncomputable def PK(X:Cx)(kws:List Keyword)(t:TA):Prop :=
 ∀(pos:Pos) (pins:List (KA×Obj)) (s:KG) (σ:St) (H:Hp) (Q:List V->Hp->Prop),Inv X pins σ H s->t σ H Q->KC (KE X.prog X.w) X.A (evalAll ((Kj pos (KO kws X.env)).map (·.2))) (AP X pins σ Q) X.xe s
theorem aeb:PK X [] tNil:=fun _ _ _ _ H Q I h=>wpAny_evalAll_nil ⟨[],H,I,.nil,h⟩
theorem acp{t:TA}(ha:PE X e g)(hr:PK X b t):PK X (⟨nm,e,c⟩::b) (iz g t):=by
 intro pos a s σ H Q I h;show KC _ _ (evalAll ((do let v<-eval e X.env;standAt pos;pure v)::(Kj pos (KO b X.env)).map (·.2))) _ _ s;refine wpAny_evalAll_cons (Aa (thn (ha a s σ H _ I h) fun u n ⟨x,d,j,f,i⟩=>Aa (EM (Ae ?_))));exact thn (hr pos a n σ d _ j i) fun us q ⟨xs,l,o,m,p⟩=>⟨x::xs,l,o,.cons f m,p⟩
structure FnScope(N P:List Str)(sc:Scope):Prop where
 kind:sc.kind=.function
 co:sc.isCoroutine=false
 gen:sc.isGenerator=false
 nd:N.Nodup
 pre:N.take P.length=P
 par:∀x∈P,sc.names.lookup x=some .local\/sc.names.lookup x=some .cell
 nofree:∀y∈sc.names,y.2≠.free
theorem a0r{kindOf:Str->Option NameKind}{x:Str}:∀{binds:List (Str×KB)}{m:Str->Option KB},(∀v,(x,v)∉binds)->bindL kindOf binds m x=m x
 | [],_,_=>rfl
 | (n,v)::r,m,h=>by
  unfold bindL;rw[a0r fun w hw=>h w (Al _ hw)];split
  . have:x≠n:=by rintro rfl;exact h v Ag
    simp[this]
  . rfl
theorem a0x{kindOf:Str->Option NameKind}{x:Str}:∀{binds:List (Str×KB)}{m:Str->Option KB},(∀v,(x,v)∉binds)->bindC kindOf binds m x=m x
 | [],_,_=>rfl
 | (n,v)::r,m,h=>by
  unfold bindC;rw[a0x fun w hw=>h w (Al _ hw)];split
  . rfl
  . have:x≠n:=by rintro rfl;exact h v Ag
    simp[this]
theorem a0y{kindOf:Str->Option NameKind}{x:Str}:∀{P:List Str}{vs:List KB}{i:Nat}{m:Str->Option KB},P.Nodup->P[i]?=some x->vs[i]?=some v->kindOf x=some .local->
 bindL kindOf (P.zip vs) m x=some v
 | [],_,_,_,_,h,_,_=>by simp at h
 | _::_,[],_,_,_,_,h,_=>by simp at h
 | p::P,w::vs,0,m,nd,h1,h2,hk=>by
  simp at h1 h2;subst h1;subst h2;show bindL kindOf ((p,w)::P.zip vs) m p=_;unfold bindL;rw[a0r fun v a=>(Bc.mp nd).1 (Fd a).1,if_pos hk];simp
 | p::P,w::vs,i+1,m,nd,h1,h2,hk=>by
  show bindL kindOf ((p,w)::P.zip vs) m x=_;unfold bindL;exact a0y (i:=i) (Bc.mp nd).2 (by simpa using h1) (by simpa using h2) hk
theorem a0u{kindOf:Str->Option NameKind}{x:Str}:∀{P:List Str}{vs:List KB}{i:Nat}{m:Str->Option KB},P.Nodup->P[i]?=some x->vs[i]?=some v->kindOf x≠some .local->
 bindC kindOf (P.zip vs) m x=some v
 | [],_,_,_,_,h,_,_=>by simp at h
 | _::_,[],_,_,_,_,h,_=>by simp at h
 | p::P,w::vs,0,m,nd,h1,h2,hk=>by
  simp at h1 h2;subst h1;subst h2;show bindC kindOf ((p,w)::P.zip vs) m p=_;unfold bindC;rw[a0x fun v a=>(Bc.mp nd).1 (Fd a).1,if_neg hk];simp
 | p::P,w::vs,i+1,m,nd,h1,h2,hk=>by
  show bindC kindOf ((p,w)::P.zip vs) m x=_;unfold bindC;exact a0u (i:=i) (Bc.mp nd).2 (by simpa using h1) (by simpa using h2) hk
noncomputable def start(N:List Str)(vs:List V):St:=vs.map some++JJ (N.length-vs.length) none
noncomputable def cxOf(CX:CXT)(P:KZ)(w:KY)(K:Ab)(mg:Str->Option KB)(base:KU)(N:List Str)(qual:Str)(scope:Scope)(f:KA)(cd:KB)(A:Kq)(outer:List Env)(s:KG)(H:Hp)(E:XK):Cx where
 prog:=P
 w:=w
 K:=K
 mg:=mg
 base:=base
 A:=A.deeper (envOfC qual scope s.heap.objs.size f cd)
 N:=N
 s₀:=s
 H₀:=H
 env:=envOfC qual scope s.heap.objs.size f cd
 outer:=outer
 stack:=envOfC qual scope s.heap.objs.size f cd::outer
 ex:=[]
 calm:=true
 fn:=fun _=>true
 pn:=[]
 xe:=fun e s'=>KC (KE P w) (A.deeper (envOfC qual scope s.heap.objs.size f cd)) (leaving (envOfC qual scope s.heap.objs.size f cd) e) (fun _ s''=>CX outer H s E e s'') (fun e' s''=>CX outer H s E e' s'') s'
theorem a2l{a:Scope}{x:Str}(h:a.names.lookup x=some .cell):∃c,(cellsFrom n a.names []).lookup x=some c:=by
 have q:=Hs a.names n [] (.inl h);exact Option.isSome_iff_exists.mp q
theorem a6v{K:Ab}(S:FnScope N ps scope)(hd:A.handled=none)(j:Env0 P w K mg base A outer s H)(hl:vs.length=ps.length)(r:Vals vs us)(x:InCallC s s.heap.objs.size (bindL (envOfC g scope s.heap.objs.size f cd).kindOf (ps.zip us) fun _=>none) (cellsFrom (s.heap.objs.size+1) scope.names []) (bindC (envOfC g scope s.heap.objs.size f cd).kindOf (ps.zip us) fun _=>none) G):
 Inv (cxOf CX P w K mg base N g scope f cd A outer s H E) [] (start N vs) H G:=by
 have I:ps.length<=N.length:=by have:=congrArg Ht S.pre;rw[AQ] at this;lia
 obtain⟨C,tk,rfl,D⟩:=x.done;have l:∀b:KA,b∉(cxOf CX P w K mg base N g scope f cd A outer s H E).ex:=fun b z=>absurd (show b∈([]:List KA) from z) (by simp);refine⟨⟨j.mod,S.kind,rfl,rfl,Aj _,fun y z c C d=>?_,fun y m=>?_,fun y c _ h=>?_,fun _=>hd,Around.frames_deeper j.frames,.inr ⟨rfl,rfl⟩,fun b z=>absurd z (l b),j.bs,j.bsz,fun b _ _=>l b,fun b z=>absurd z (l b),j.funs,j.frf⟩,
  rfl,j.bare,Un.kept D,⟨_,x.toInCall.ns,fun i y v C d L=>?_⟩,fun y c h=>⟨_,x.cell y c h⟩,j.hok.fresh (Aj _),fun y c h=>?_,fun p hp=>absurd (show p∈([]:List (KA×Obj)) from hp) (by simp),j.hok.kept D,?_⟩
 . exact name_of_addr x.apart (BL C) (BL d)
 . have m:scope.names.lookup y=some .cell\/scope.names.lookup y=some .free:=m;rcases m with m|m
   . exact a2l m
   . exact absurd rfl (S.nofree _ (BL m))
 . exact BG (x.above y c (BL h))
 . have hi:i<vs.length:=by
    unfold start at d;by_cases hi:i<vs.length
    . exact hi
    . rw[FL (by simpa using hi)] at d;rw[List.getElem?_replicate] at d;split at d<;>cases d
   have ha:vs[i]?=some v:=by
    unfold start at d;rw[FZ (by simpa using hi),Am] at d;cases e:vs[i]? with
    | none=>rw[e] at d;cases d
    | some a=>rw[e] at d;cases d;rfl
   obtain⟨u,F,J⟩:=r.get ha;have hp:ps[i]?=some y:=by
    rw[<- S.pre,Dh (by lia)];exact C
   have o:ps.Nodup:=by rw[<- S.pre];exact S.nd.sublist (EB _ _)
   refine⟨u,J,?_⟩;rcases S.par y (AE hp) with k|k
   . exact .inl ⟨k,a0y o hp F k⟩
   . obtain⟨c,e⟩:=a2l (n:=s.heap.objs.size+1) k;refine .inr ⟨.inl k,c,e,?_⟩;have q:=x.cell y c e;rw[a0u o hp F (by show scope.names.lookup y≠_;rw[k];decide)] at q;exact q
 . exact j.hok.fresh (BG (x.above y c (BL h)))
 . unfold start;show _=N.length;rw[Ai,Ad,HN]
   lia
theorem afv{K:Ab}{k:Nat}{kV:KB}(L:K.lookup f=some ⟨U,od,.func (CI name a params body scope D kV p M G c ct),O⟩)(hcd:HP K c a=true)(S:FnScope N ps scope)(len:∀vs H Q E,sp vs H Q E->vs.length=ps.length)(g:∀(A:Kq) (outer:List Env) (s:KG) (H:Hp) (vs:List V) (Q:VK) (E:XK),Room k (A.deeper (envOfC a scope s.heap.objs.size f c))->sp vs H Q E->
 ∃t,PSs (cxOf CX P w K mg base N a scope f c A outer s H E) body t/\t {nx:=fun _ H'=>Q .non H',rt:=Q} (start N vs) H):
 FnOk P w K mg base CX (k+1) f (CI name a params body scope D kV p M G c ct) ps sp:=by
 refine⟨len,fun A outer s H args us vs Q E hr i hb r h=>?_⟩;have hl:=len _ _ _ _ h;have z:K.In s.heap:=i.mod.kin.keeps fun b o e=>(i.bs b o e).1;have l:s.heap.NoLimit:=i.mod.nolimit.keeps fun b o e=>(i.bs b o e).1;have d:∀y∈ps.zip us,scope.names.lookup y.1=some .local\/(scope.names.lookup y.1=some .cell/\((cellsFrom (s.heap.objs.size+1) scope.names []).lookup y.1).isSome=true):=fun⟨n,v⟩ R=>by
  rcases S.par n (Fd R).1 with q|q
  . exact .inl q
  . exact .inr ⟨q,Hs _ _ _ (.inl q)⟩
 refine codeAny_call_function hr.depth (z _ _ L) rfl S.co S.gen rfl (PySem.W.codeRec_of z hcd) (hb _ _ _ _ ?_);refine wpAny_newFunctionEnv_cells S.kind d fun env F C x=>?_;subst F;refine⟨l.keeps x.toInCall.keep,codeAny_func ?_⟩;obtain⟨t,ht,hq⟩:=g A outer s H vs Q E (hr.deeper _) h;have I:Inv (cxOf CX P w K mg base N a scope f c A outer s H E) [] (start N vs) H C:=a6v S hr.hd i hl r x;refine BM (ht [] C (start N vs) H _ I hq) (fun T s' hs=>?_) fun e s' hs=>hs;have fin:∀{j:St} {H':Hp} {v:V} {u:KB},Inv (cxOf CX P w K mg base N a scope f c A outer s H E) [] j H' s'->RelV v u->Q v H'->CE outer P w H s Q u s' :=
  fun {j H' v u} J m q=>⟨v,H',J.os,J.bare,J.base,J.hok,m,q⟩
 cases T with
 | ret u =>
  obtain⟨v,j,H',J,m,q⟩:=hs;exact fin J m q
 | next =>
  obtain⟨j,H',J,q⟩:=hs;exact fin (v:=V.non) (u:=Value.none) J rfl q
 | brk =>
  obtain⟨_,_,_,q⟩:=hs;exact Co q
 | cont =>
  obtain⟨_,_,_,q⟩:=hs;exact Co q
noncomputable def tCB(r:List V->Hp->VK->Prop)(t:TA):TE:=fun σ H Q=>t σ H fun vs H1=>r vs H1 Q
theorem uk{x:Str}{t:TA}{id:String}(hc:ku X (.builtin id) r)(i:Gl X x)(hm:X.mg x=none)(j:bootBuiltins x=some (.builtin id))(ha:PA X (e::es) t)(hn:autoParam (x≠"__name__") a1_)(c:autoParam ((x==("__debug__":Str))=false) a1_)(g:autoParam (KD (e::es) X.env=(false,eval e X.env)::KD es X.env) a3_)(b:autoParam ((KP pos (KD es X.env)).any (·.1)=false) a3_):PE X (.Call (.Name x p) (e::es) [] pos) (tCB r t):=by
 intro a s σ H Q I h;refine Dx (oe I i hm j ?_ hn c);exact PyProof.Rows.callWith_builtin1 (thn (ha pos a s σ H _ I h) fun us n ⟨vs,d,m,f,l⟩=>hc a n σ d vs us Q m f l) g b
theorem a0o{x:Str}{t:TA}(hc:ku X (.type T) r)(i:Gl X x)(hm:X.mg x=none)(j:bootBuiltins x=some (.type T))(ha:PA X (e::es) t)(hn:autoParam (x≠"__name__") a1_)(c:autoParam ((x==("__debug__":Str))=false) a1_)(g:autoParam (KD (e::es) X.env=(false,eval e X.env)::KD es X.env) a3_)(b:autoParam ((KP pos (KD es X.env)).any (·.1)=false) a3_):PE X (.Call (.Name x p) (e::es) [] pos) (tCB r t):=by
 intro a s σ H Q I h;refine Dx (oe I i hm j ?_ hn c);exact BH (thn (ha pos a s σ H _ I h) fun us n ⟨vs,d,m,f,l⟩=>hc a n σ d vs us Q m f l) g b
end L2
namespace HT
open PySem PyProof.Rows
section
open PySem.SeqAt
open PySem.AutoSeq1 (wpAny_loadPart')
open PySem.MeetsSeq PySem.MeetsSeq2 PySem.MeetsSeq3
end
theorem cat_tup{t:KA}(ht:IsTup s.heap t vs.toArray)(hb:IsTup s.heap b ws.toArray)(j:vs≠[])(p:ws=[]->Q (.ref t) s)(o:ws≠[]->Q (.ref s.heap.objs.size) {s with heap:=s.heap.push {cls:=.type "tuple",data:=.seq (vs++ws).toArray}})(hsz:vs.length+ws.length<=KF):KC (KE prog w) A (Ki .Add (.ref t) (.ref b)) Q E s:=by
 obtain⟨⟨cls,dd,data,m⟩,h,hc,n,hd⟩:=id ht;obtain⟨⟨l,c,i,g⟩,a,f,n2,d⟩:=id hb;simp only at hc hd f d;subst hc hd f d;have e:vs.toArray++ws.toArray=(vs++ws).toArray:=by simp
 by_cases hw:ws=[]
 . exact IQ ⟨_,h,rfl⟩ ⟨_,a,rfl⟩ Gh Ir EI Ew (Ef _ _)
    (tuple_addW1 t b vs.toArray ws.toArray n n2 dd c m g (by simpa using j) (by simp[hw])) ⟨h,a,p hw⟩
 . refine IQ ⟨_,h,rfl⟩ ⟨_,a,rfl⟩ Gh Ir EI Ew (Ef _ _)
    (tuple_addW2 t b vs.toArray ws.toArray n n2 dd c m g (by simpa using j) (by simpa using hw) (by rw[Ao,Ao];exact hsz)) ⟨h,a,?_⟩
   rw[e];exact o hw
noncomputable def sIx(n d:Nat):Option Int->Nat
 | none=>d
 | some v=>if v<0 then (v+(n:Int)).toNat else min v.toNat n
theorem sIx_none(n d:Nat):sIx n d none=d:=rfl
theorem sIx_nat(n d k:Nat):sIx n d (some (k:Int))=min k n:=by
 show (if (k:Int)<0 then ((k:Int)+(n:Int)).toNat else min (k:Int).toNat n)=min k n;rw[if_neg (by lia),Bv]
theorem yx(n d:Nat)(hd:d<=n)(o:Option Int):sIx n d o<=n:=by
 cases o with
 | none=>exact hd
 | some v =>
  show (if v<0 then (v+(n:Int)).toNat else min v.toNat n)<=n;by_cases a:v<0
  . rw[if_pos a];lia
  . rw[if_neg a];exact Nat.min_le_right _ _
theorem a3o(v:Int)(n d:Nat):(if v<0 then max (v+(n:Int)) 0 else min v (n:Int))=((sIx n d (some v):Nat):Int):=by
 show (if v<0 then max (v+(n:Int)) 0 else min v (n:Int))=(((if v<0 then (v+(n:Int)).toNat else min v.toNat n):Nat):Int)
 by_cases a:v<0
 . simp only[if_pos a];lia
 . simp only[if_neg a];lia
theorem a5e(lo hi:Option Int)(n:Nat):DZ lo hi 1 (n:Int)=(((sIx n 0 lo:Nat):Int),((sIx n n hi:Nat):Int)):=by
 have a:¬ ((1:Int)<0):=by lia
 unfold DZ;simp only[a,if_false];refine Prod.ext ?_ ?_
 . cases lo with
   | none=>rfl
   | some v=>exact a3o v n 0
 . cases hi with
   | none=>rfl
   | some v=>exact a3o v n n
theorem a5b(i j:Nat):CY (i:Int) (j:Int) 1=j-i:=by
 unfold CY;have a:(1:Int)>0:=by lia
 simp only[a,if_true,Int.ediv_one];split<;>lia
theorem zz(p:IsPart v o)(h:Q o s):KC (KE prog w) A (Builtin.Slice.slicePartIndex v) Q E s:=by
 cases p with
 | none=>exact slicePart_none h
 | int i t=>exact slicePart_int h
theorem r8{lo:Option Int}{Q:Int×Int×Nat->KG->Prop}(hs:s.heap.IsSliceOf g d c .none)(pl:IsPart d lo)(e:IsPart c hi)(h:Q (((sIx n 0 lo:Nat):Int),1,sIx n n hi-sIx n 0 lo) s):KC (KE prog w) A (FM (.ref g) (pure (n:Int))) Q E s:=by
 obtain⟨os,a,f,b⟩:=id hs;unfold FM Builtin.Slice.sliceFields;refine Aa (Aa (Bo a b (x:=d) rfl (Aa (Bo a b (x:=c) rfl (Aa (Bo a b (x:=.none) rfl (Ae ?_)))))));refine Aa (slicePart_none ?_);show KC _ _ (if ((1:Int)==0)=true then _ else _) _ _ s;rw[if_neg (by decide)];refine Aa (zz pl (Aa (zz e (Aa (Ae ?_)))));show KC _ _ (match DZ lo hi 1 (n:Int) with|(lo,hi)=>pure (lo,(1:Int),CY lo hi 1)) _ _ s;rw[a5e lo hi n];show KC _ _ (pure (((sIx n 0 lo:Nat):Int),(1:Int),CY ((sIx n 0 lo:Nat):Int) ((sIx n n hi:Nat):Int) 1)) _ _ s;rw[a5b];exact Ae h
theorem a95(xs:Array KB)(i k:Nat):((Cb k).filterMap fun (m:Nat)=>xs[((i:Int)+(m:Int)*1).toNat]?).toArray=((xs.toList.drop i).take k).toArray:=by
 have e:(fun (m:Nat)=>xs[((i:Int)+(m:Int)*1).toNat]?)=fun m=>xs[i+m]?:=by
  funext m
  have:((i:Int)+(m:Int)*1).toNat=i+m:=by lia
  rw[this]
 rw[e];have:=pick_run xs i k;rw[IR] at this;have a:((fun x=>xs[x]?)∘fun x=>i+x)=fun m=>xs[i+m]?:=rfl;rw[a] at this;rw[this]
theorem getItem_tuple_cut{t:KA}{lo:Option Int}(ht:IsTup s.heap t items)(hs:s.heap.IsSliceOf f j i .none)(pl:IsPart j lo)(g:IsPart i hi)(hw:¬ (sIx items.size 0 lo=0/\sIx items.size items.size hi=items.size))(h:Q (.ref s.heap.objs.size) {s with heap:=s.heap.push {cls:=.type "tuple",data:=.seq ((items.toList.drop (sIx items.size 0 lo)).take (sIx items.size items.size hi-sIx items.size 0 lo)).toArray}})(hsz:items.size<=KF):KC (KE prog w) A (getItem (.ref t) (.ref f)) Q E s:=by
 have a:sizeOk (.seq ((items.toList.drop (sIx items.size 0 lo)).take (sIx items.size items.size hi-sIx items.size 0 lo)).toArray):=by
  show ((items.toList.drop (sIx items.size 0 lo)).take (sIx items.size items.size hi-sIx items.size 0 lo)).toArray.size<=KF;rw[Ao,AQ,Bb,Bj];omega
 have o:sIx items.size items.size hi<=items.size:=yx _ _ (Aj _) hi;obtain⟨os,d,b,l⟩:=id hs;have c:s.TypeIs (.ref f) "slice" := ⟨os,d,b⟩
 unfold getItem
 try with_reducible refine AU ?_
 first|refine Aa (Ae ?_)|skip
 refine Aa (Jb ht.typeIs (by decide) ?_);refine Aa (Bn (name:=Bf "__getitem__") ht.typeIs BI
  (Bp BI ht.typeIs entry_tuple_getitem ?_ (args_tuple_getitem _ _)))
 show KC _ _ (FO (.ref t)>>=_) _ _ s;refine Aa (tupleItemsOf_ ht ?_);refine Aa (CJ c ?_);rw[if_pos (by decide)];refine Aa (r8 hs pl g ?_);have e:¬ ((((sIx items.size 0 lo:Nat):Int)==0 && (1:Int)==1 && (sIx items.size items.size hi-sIx items.size 0 lo)==items.size)=true):=by
  intro q;rw[BR,BR] at q;have n:((sIx items.size 0 lo:Nat):Int)=0:=eq_of_beq q.1.1;have p:sIx items.size items.size hi-sIx items.size 0 lo=items.size:=eq_of_beq q.2;exact hw ⟨by omega,by omega⟩
 show KC _ _ (if (((sIx items.size 0 lo:Nat):Int)==0 && (1:Int)==1 && (sIx items.size items.size hi-sIx items.size 0 lo)==items.size)=true then _ else _) _ _ s;rw[if_neg e,a95]
 first
  | exact Aa (m:=Di _) (AX (Ae ⟨_,rfl,Ae h⟩) a)
  | exact Aa (m:=Di _) (AX (Aa (Ae (Ae ⟨_,rfl,Ae h⟩))) a)
  | exact Aa (Aa (m:=Di _) (AX (Ae (Ae ⟨_,rfl,Ae h⟩)) a))
  | exact Aa (Aa (m:=Di _) (AX (Ae ⟨_,rfl,Ae h⟩) a))
end HT
namespace L2
open PyProof.Rows
abbrev TO:=St->Hp->(Option Int->Hp->Prop)->Prop
noncomputable def PO(X:Cx)(e:Option Expr)(t:TO):Prop :=
 ∀(pins:List (KA×Obj)) (s:KG) (σ:St) (H:Hp) (Q:Option Int->Hp->Prop),Inv X pins σ H s->t σ H Q->
   KC (KE X.prog X.w) X.A (evalPart e X.env) (fun u s'=>∃o H',Inv X pins σ H' s'/\IsPart u o/\Q o H') X.xe s
noncomputable def a07:TO:=fun _ H Q=>Q none H
noncomputable def a5d(t:TE):TO:=fun σ H Q=>t σ H fun x H1=>∃i,x=.int i/\Q (some i) H1
section
theorem a3k:PO X none a07:=by
 intro a s σ H Q I h;rw[FP];exact Ae ⟨none,H,I,.none,h⟩
theorem a3n(h:PE X e d):PO X (some e) (a5d d):=by
 intro a s σ H Q I hw;rw[Iu];refine thn (h a s σ H _ I hw) fun u j ⟨x,b,g,c,f⟩=>?_;obtain⟨i,rfl,q⟩:=f;obtain⟨t,rfl⟩:=c;exact⟨some i,b,g,.int i t,q⟩
variable{lo hi:Option Expr} in
noncomputable def SlR(X:Cx)(r:V->Option Int->Option Int->Hp->VK->Prop):Prop :=
 ∀(pins:List (KA×Obj)) (s:KG) (σ:St) (H:Hp) (x:V) (v vl vu:KB) (lo hi:Option Int) (sl:KA) (Q:VK),Inv X pins σ H s->RelV x v->s.heap.IsSliceOf sl vl vu .none->IsPart vl lo->IsPart vu hi->r x lo hi H Q->
   ∃T id,typeLookup (.type T) "__getitem__"=pure (some (.builtin id))/\s.TypeIs v T/\KC (KE X.prog X.w) X.A (getItem v (.ref sl)) (EP X pins σ Q) X.xe s
noncomputable def tSl(r:V->Option Int->Option Int->Hp->VK->Prop)(te:TE)(tl th:TO):TE:=fun σ H Q=>te σ H fun x H1=>tl σ H1 fun l H2=>th σ H2 fun u H3=>r x l u H3 Q
theorem a21{lo:Option Expr}(hr:SlR X r)(o:PE X e N)(hl:PO X lo tl)(D:PO X hi F):PE X (.Subscript e (.Slice lo hi none p2) pos) (tSl r N tl F):=by
 intro a s σ H Q I h;refine Subscript_ (thn (o a s σ H _ I h) fun v E ⟨x,i,z,n,O⟩=>?_);refine Jm (thn (hl a E σ i _ z O) fun d y ⟨l,C,G,pl,J⟩=>thn (D a y σ C _ G J) fun f c ⟨u,g,m,j,L⟩=>?_);rw[FP];refine Ae ?_;have p:Inv X a σ g {c with heap:=c.heap.push {cls:=.type "slice",data:=.fields #[d,f,.none]}}:=m.kept (t':=c.toks) fun b ob q=>Ac _ q;obtain⟨T,id,P,ht,M⟩:=hr a {c with heap:=c.heap.push {cls:=.type "slice",data:=.fields #[d,f,.none]}} σ g x v d f l u c.heap.objs.size Q p n (FB ..) pl j L;show KC (KE X.prog X.w) X.A (subscriptTail e (.Slice lo hi none p2) v (.ref c.heap.objs.size)) (EP X a σ Q) X.xe {c with heap:=c.heap.push {cls:=.type "slice",data:=.fields #[d,f,.none]}};exact tail_any (ops:=[.ref c.heap.objs.size,v]) ht P M (by with_unfolding_all rfl)
noncomputable def cutV(xs:List V)(lo hi:Option Int):List V:=(xs.drop (HT.sIx xs.length 0 lo)).take (HT.sIx xs.length xs.length hi-HT.sIx xs.length 0 lo)
theorem xt(xs:List V)(lo hi:Option Int):(cutV xs lo hi).length<=xs.length:=by
 unfold cutV;rw[AQ,Bb]
 lia
variable{lo hi:Option Expr} in
noncomputable def rSlT(K:Ab):V->Option Int->Option Int->Hp->VK->Prop:=fun x lo hi H Q=>∃a xs,x=.ref a/\SqT K H a xs/\
 ¬ (HT.sIx xs.length 0 lo=0/\HT.sIx xs.length xs.length hi=xs.length)/\∀p,H p=none->Q (.ref p) (upd H p (.tup (cutV xs lo hi)))
theorem zb:SlR X (rSlT X.K):=by
 intro d s σ H x v j i lo hi l Q I g hs pl e h;obtain⟨a,xs,rfl,f,hw,q⟩:=h;cases g;obtain⟨its,r,ht,hz⟩:=I.tuple f;have c:its.toArray.size=xs.length:=by rw[Ao];exact r.length.symm
 refine⟨"tuple",_,BI.lookup,ht.typeIs,?_⟩;refine HT.getItem_tuple_cut ht hs pl e (by rw[c];exact hw) ?_ (by rw[c];exact hz);rw[c];refine⟨.ref s.heap.objs.size,_,I.laid (t':=s.toks) (o:=.tup (cutV xs lo hi)) (fun b ob q=>Ac _ q) (Aj _) ?_,rfl,q _ (I.hok.fresh (Aj _))⟩;exact⟨Aw (xt xs lo hi) hz,_,(r.drop (HT.sIx xs.length 0 lo)).take (HT.sIx xs.length xs.length hi-HT.sIx xs.length 0 lo),IsTup.new _ _⟩
noncomputable def afp(K:Ab):R2:=fun x y H Q=>∃a b xs ys,x=.ref a/\y=.ref b/\SqT K H a xs/\SqT K H b ys/\xs≠[]/\xs.length+ys.length<=KF/\
 (ys=[]->Q (.ref a) H)/\(ys≠[]->∀p,H p=none->Q (.ref p) (upd H p (.tup (xs++ys))))
theorem Vals.nil_iff(r:Vals xs us):us=[]↔xs=[]:=by
 cases r with
 | nil=>simp
 | cons _ _=>simp
theorem wf:OpR X (Ki .Add) (afp X.K):=by
 intro e s σ H x y v u Q I g l h;obtain⟨a,b,xs,ys,rfl,rfl,ha,hb,j,hz,m,i⟩:=h;cases g;cases l;obtain⟨its,d,p1,_⟩:=I.tuple ha;obtain⟨f,c,p2,_⟩:=I.tuple hb;refine HT.cat_tup p1 p2 (fun z=>j (d.nil_iff.mp z)) (fun z=>⟨.ref a,H,I,rfl,m (c.nil_iff.mp z)⟩) (fun z=>?_) (by rw[<- d.length,<- c.length];exact hz);refine⟨.ref s.heap.objs.size,_,I.laid (t':=s.toks) (o:=.tup (xs++ys)) (fun b ob q=>Ac _ q) (Aj _) ?_,rfl,i (fun w=>z (c.nil_iff.mpr w)) _ (I.hok.fresh (Aj _))⟩;exact⟨by rw[Ai];exact hz,_,d.append c,IsTup.new _ _⟩
end
noncomputable def ixN(n:Nat)(i:Int):Option Nat:=if 0<=i then (if i<n then some i.toNat else none) else if -(n:Int)<=i then some (i+n).toNat else none
noncomputable def atI{α:Type}(xs:List α)(i:Int):Option α:=(ixN xs.length i).bind fun j=>xs[j]?
theorem a4d(h:ixN n i=some j):seqIndex? i n=some j/\j<n /\ -(n:Int)<=i/\i<n:=by
 unfold ixN at h;by_cases h0:0<=i
 . rw[if_pos h0] at h;by_cases a:i<n
   . rw[if_pos a] at h;have e:i.toNat=j:=Au h;exact⟨by rw[Jn h0 a,e],by lia,by lia,a⟩
   . rw[if_neg a] at h;cases h
 . rw[if_neg h0] at h;by_cases a : -(n:Int)<=i
   . rw[if_pos a] at h;have e:(i+n).toNat=j:=Au h;exact⟨by rw[IS (by lia) a,e],by lia,a,by lia⟩
   . rw[if_neg a] at h;cases h
theorem a0b(h:atI xs i=some v):∃j,seqIndex? i xs.length=some j/\xs[j]?=some v/\j<xs.length /\ -(xs.length:Int)<=i/\i<xs.length:=by
 unfold atI at h;cases e:ixN xs.length i with
 | none=>rw[e] at h;cases h
 | some j =>
  rw[e] at h;obtain⟨c,a,b,d⟩:=a4d e;exact⟨j,c,h,a,b,d⟩
theorem jg{xs:List α}{j:Nat}{v:α}(h:xs[j]?=some v):atI xs (j:Int)=some v:=by
 have a:j<xs.length:=(Az.mp h).1;have e:ixN xs.length (j:Int)=some j:=by
  unfold ixN;rw[if_pos (by lia),if_pos (by lia)];simp
 unfold atI;rw[e];exact h
noncomputable def qu(b:Expr):Prop:=∀o i,subscripted b false o i=operate [o,i] (getItem o i)
noncomputable def IxR(X:Cx)(r:R2):Prop :=
 ∀(value slice:Expr) (pins:List (KA×Obj)) (s:KG) (σ:St) (H:Hp) (x y:V) (v u:KB) (Q:VK),Inv X pins σ H s->RelV x v->RelV y u->r x y H Q->
   subscripted slice false v u=operate [v,u] (getItem v u)->KC (KE X.prog X.w) X.A (subscriptTail value slice v u) (EP X pins σ Q) X.xe s
noncomputable def MtR(X:Cx)(id:String)(r:V->List V->Hp->VK->Prop):Prop :=
 ∀(pins:List (KA×Obj)) (s:KG) (σ:St) (H:Hp) (x:V) (xs:List V) (v:KB) (us:List KB) (Q:VK),Inv X pins σ H s->RelV x v->Vals xs us->r x xs H Q->
   KC (KE X.prog X.w) X.A (call (.builtin id) (v::us)) (EP X pins σ Q) X.xe s
theorem a19(hr:IxR X r)(ha:PE X a l)(hb:PE X b g)(hs:qu b):PE X (.Subscript a b pos) (tOp r l g):=by
 intro c s σ H Q I h;exact Subscript_ (binT ha hb I h fun v u e x y i j f d q=>hr a b c e σ i x y v u Q j f d q (hs _ _))
noncomputable def rIxL(K:Ab):R2:=fun x y H Q=>∃p xs i v,x=.ref p/\y=.int i/\SqL K H p xs/\atI xs i=some v/\Q v H
noncomputable def rIxT(K:Ab):R2:=fun x y H Q=>∃p xs i v,x=.ref p/\y=.int i/\SqT K H p xs/\atI xs i=some v/\Q v H
noncomputable def rIxS:R2:=fun x y H Q=>∃z i c,x=.str z/\y=.int i/\z.length<=KF/\atI z.cps.toList i=some c/\Q (.str ⟨#[c]⟩) H
theorem wz:IxR X (rIxL X.K):=by
 intro value c a s σ H x y v u Q I n o h hs;obtain⟨p,xs,i,z,rfl,rfl,hq,m,q⟩:=h;cases n;obtain⟨t,rfl⟩:=o;obtain⟨its,r,pl,hz⟩:=I.list hq;obtain⟨j,b,g,C,A,l⟩:=a0b m;obtain⟨w,f,d⟩:=r.get g;have hl:=r.length;have hn:=u5;have fin:EP X a σ Q w s:=⟨z,H,I,d,q⟩
 by_cases h0:0<=i
 . have e:i.toNat=j:=by
    rw[Jn h0 l] at b;exact Au b
   exact item_listR pl.isList h0 (by lia) (by rw[e];simpa using f) fin hs
 . have e:(i+(its.toArray.size:Int)).toNat=j:=by
    rw[IS (by lia) A] at b;rw[Ao,<- hl];exact Au b
   exact subscriptTail_builtinR (x:=w) pl.isList.typeIs EC.lookup
    (wpAny_getItem_list_neg (Q:=fun r s'=>r=w/\EP X a σ Q r s') pl.isList (by lia) (by rw[Ao]<;>lia) (by lia) (by rw[e];simpa using f) ⟨rfl,fin⟩) hs
theorem vc:IxR X (rIxT X.K):=by
 intro value b a s σ H x y v u Q I f g h hs;obtain⟨p,xs,i,z,rfl,rfl,hq,e,q⟩:=h;cases f;obtain⟨t,rfl⟩:=g;obtain⟨its,r,pl,hz⟩:=I.tuple hq;obtain⟨j,m,d,o,A,n⟩:=a0b e;obtain⟨w,l,c⟩:=r.get d;have hl:=r.length;have hn:=u5;have fin:EP X a σ Q w s:=⟨z,H,I,c,q⟩
 exact subscriptTail_builtinR (x:=w) pl.typeIs slot_tuple_getitem.lookup
  (getItem_tuple (j:=j) (Q:=fun r s'=>r=w/\EP X a σ Q r s') pl (by lia) (by lia) (by rw[Ao,<- hl];exact m) (by simpa using l) ⟨rfl,fin⟩) hs
theorem nz:IxR X rIxS:=by
 intro value a b s σ H x y v u Q I n o h hs;obtain⟨z,i,c,rfl,rfl,hz,l,q⟩:=h;obtain⟨t,rfl⟩:=n;obtain⟨t',rfl⟩:=o;obtain⟨j,d,e,r,p,f⟩:=a0b l;have hl:z.cps.toList.length=z.length:=by simp[Ga]
 rw[hl] at d p f;have hn:=u5;exact tail_any (Ih s z t) slot_str_getitem.lookup (getItem_str (c:=c) (by
  have m:decide (i < -(2 ^ 63:Int))=false:=decide_eq_false (by lia);have g:decide (i >= 2 ^ 63)=false:=decide_eq_false (by lia);rw[m,g,JO]) (by rw[d];simpa using e) ⟨.str ⟨#[c]⟩,H,I.tok _,⟨_,rfl⟩,q⟩) hs
theorem a5h(its:List KB)(n j:Nat)(u:KB):Es (·.setIfInBounds j u) {cls:=.type "list",data:=.seq its.toArray n}={cls:=.type "list",data:=.seq (its.set j u).toArray n}:=by
 simp[Es]
theorem Inv.lst{X:Cx}{a:List (KA×Obj)}{σ:St}{H:Hp}{s:KG}{p:KA}{xs:List V}(I:Inv X a σ H s)(h:H p=some (.lst xs)):
 ∃(its:List KB) (n:Nat),Vals xs its/\s.heap.get? p=some {cls:=.type "list",data:=.seq its.toArray n}/\xs.length<=KF:=by
 obtain⟨z,its,n,r,e⟩:=I.hok p _ h;exact⟨its,n,r,e,z⟩
theorem Inv.lstUpd{its:List KB}(I:Inv X a σ H s)(h:H p=some (.lst xs))(g:s.heap.get? p=some {cls:=.type "list",data:=.seq its.toArray n})(c:f {cls:=.type "list",data:=.seq its.toArray n}={cls:=.type "list",data:=.seq its'.toArray d})(r:Vals ys its')(hz:ys.length<=KF)(t:Nat):
 Inv X a σ (upd H p (.lst ys)) {s with heap:=s.heap.update p f,toks:=t}:=by
 have e:(s.heap.update p f).get? p=some {cls:=.type "list",data:=.seq its'.toArray d}:=by
  rw[B9 f g (by rw[c]<;>rfl),c]
 refine I.write (x:=p) (e:=p) (by rw[h];trivial) (.inl rfl) (fun b u hb q=>(By _ _ (AO hb)).trans q) ⟨_,e⟩ ?_;exact⟨hz,its',d,r,e⟩
noncomputable def afs:V->V->V->Hp->(Hp->Prop)->Prop:=fun o i v H Q=>∃p xs k j,o=.ref p/\i=.int k/\H p=some (.lst xs)/\ixN xs.length k=some j/\Q (upd H p (.lst (xs.set j v)))
theorem v6:PSet X afs:=by
 intro a s σ H o i v C A u Q I l y m h;obtain⟨p,xs,k,j,rfl,rfl,hp,w,q⟩:=h;cases l;obtain⟨t,rfl⟩:=y;obtain⟨its,n,r,d,hz⟩:=I.lst hp;obtain⟨b,z,e,g⟩:=a4d w;have hl:=r.length;have hn:=u5;have f:Inv X a σ (upd H p (.lst (xs.set j v))) {s with heap:=s.heap.update p (Es (·.setIfInBounds j u))} :=
  I.lstUpd hp d (a5h its n j u) (r.set m j) (by rw[J9];exact hz) s.toks
 by_cases h0:0<=k
 . have c:k.toNat=j:=by
    rw[Jn h0 g] at b;exact Au b
   exact PySem.W.ki_setAt d h0 (by lia) (by rw[Ao,<- hl];exact g) (by rw[c];exact⟨_,f,q⟩)
 . have c:(k+(its.toArray.size:Int)).toNat=j:=by
    rw[IS (by lia) e] at b;rw[Ao,<- hl];exact Au b
   exact PySem.W.ki_setBack d (by lia) (by rw[Ao,<- hl];exact e) (by lia) (by rw[c];exact⟨_,f,q⟩)
theorem a31(lo hi:Option Int)(n:Nat):(Kl lo hi none n).1=((HT.sIx n 0 lo:Nat):Int)/\(Kl lo hi none n).2.1=((HT.sIx n n hi:Nat):Int)/\(Kl lo hi none n).2.2=1:=by
 refine⟨?_,?_,rfl⟩
 . cases lo with
   | none=>simp[Kl,HT.sIx]
   | some i =>
    simp only[Kl,HT.sIx,Jr,show (1:Int)>0 by decide,if_true];by_cases h:i<0
    . simp only[h,if_true]<;>lia
    . simp only[h,if_false]<;>lia
 . cases hi with
   | none=>simp[Kl,HT.sIx]
   | some i =>
    simp only[Kl,HT.sIx,Jr,show (1:Int)>0 by decide,if_true];by_cases h:i<0
    . simp only[h,if_true]<;>lia
    . simp only[h,if_false]<;>lia
theorem a10(its:List KB)(lo hi:Option Int):slicePick its.toArray lo hi none=((its.drop (HT.sIx its.length 0 lo)).take (HT.sIx its.length its.length hi-HT.sIx its.length 0 lo)).toArray:=by
 obtain⟨c,a,b⟩:=a31 lo hi its.toArray.size;unfold slicePick;rw[c,a,b];simp only[sliceRange_one,pick_run,Ao]<;>rfl
noncomputable def rSlL(K:Ab):V->Option Int->Option Int->Hp->VK->Prop:=fun x lo hi H Q=>∃a xs,x=.ref a/\SqL K H a xs/\∀p,H p=none->Q (.ref p) (upd H p (.lst (cutV xs lo hi)))
theorem adg:SlR X (rSlL X.K):=by
 intro d s σ H x v j i lo hi l Q I g hs pl e h;obtain⟨a,xs,rfl,f,q⟩:=h;cases g;obtain⟨its,r,ht,hz⟩:=I.list f;have c:=r.length;refine⟨"list",_,EC.lookup,ht.isList.typeIs,?_⟩;refine Eg ht.isList hs pl e .none (by simp) ?_ (by rw[Ao]<;>lia);rw[a10,<- c];refine⟨.ref s.heap.objs.size,_,I.laid (t':=s.toks) (o:=.lst (cutV xs lo hi)) (fun b ob q=>Ac _ q) (Aj _) ?_,rfl,q _ (I.hok.fresh (Aj _))⟩;exact⟨Aw (xt xs lo hi) hz,_,0,(r.drop (HT.sIx xs.length 0 lo)).take (HT.sIx xs.length xs.length hi-HT.sIx xs.length 0 lo),An _ rfl⟩
noncomputable def qi:V->Bool
 | .non=>true
 | .bl _=>true
 | .int _=>true
 | .str _=>true
 | _=>false
noncomputable def eqV:V->V->Bool
 | .non,.non=>true
 | .bl a,.bl b=>a==b
 | .bl a,.int b=>(if a then 1 else 0)==b
 | .int a,.bl b=>a==(if b then 1 else 0)
 | .int a,.int b=>a==b
 | .str a,.str b=>a==b
 | _,_=>false
theorem aen{x:V}(d:RelV y u)(c:RelV x v)(f:qi y=true)(e:qi x=true):Ii A s u v (eqV y x):=by
 cases y with
 | non =>
  cases d;cases x with
  | non=>cases c;exact Ea _
  | bl b=>cases c;exact SeqAt.EqAt.none_bool b
  | int b=>obtain⟨t,rfl⟩:=c;exact SeqAt.EqAt.none_int b t
  | str b=>obtain⟨t,rfl⟩:=c;exact SeqAt.EqAt.none_str b t
  | _=>exact absurd (show false=true from e) Ak
 | bl a =>
  cases d;cases x with
  | non=>cases c;exact SeqAt.EqAt.bool_none a
  | bl b=>cases c;exact SeqAt.EqAt.bool_bool a b
  | int b=>obtain⟨t,rfl⟩:=c;exact SeqAt.EqAt.bool_int a b t
  | str b=>obtain⟨t,rfl⟩:=c;exact SeqAt.EqAt.bool_str a b t
  | _=>exact absurd (show false=true from e) Ak
 | int a =>
  obtain⟨t',rfl⟩:=d;cases x with
  | non=>cases c;exact SeqAt.EqAt.int_none a t'
  | bl b=>cases c;exact SeqAt.EqAt.int_bool a t' b
  | int b=>obtain⟨t,rfl⟩:=c;exact IT a t' b t
  | str b=>obtain⟨t,rfl⟩:=c;exact IF a t' b t
  | _=>exact absurd (show false=true from e) Ak
 | str a =>
  obtain⟨t',rfl⟩:=d;cases x with
  | non=>cases c;exact SeqAt.EqAt.str_none a t'
  | bl b=>cases c;exact SeqAt.EqAt.str_bool a t' b
  | int b=>obtain⟨t,rfl⟩:=c;exact IG a t' b t
  | str b=>obtain⟨t,rfl⟩:=c;exact Eh a t' b t
  | _=>exact absurd (show false=true from e) Ak
 | _=>exact absurd (show false=true from f) Ak
noncomputable def eqU(x:V)(u:KB):Bool:=match u with
 | .none=>eqV .non x
 | .bool b=>eqV (.bl b) x
 | .int i _=>eqV (.int i) x
 | .str z _=>eqV (.str z) x
 | _=>false
theorem a6u{x:V}(r:RelV y u)(f:qi y=true):eqU x u=eqV y x:=by
 cases y with
 | non=>cases r;rfl
 | bl b=>cases r;rfl
 | int i=>obtain⟨t,rfl⟩:=r;rfl
 | str z=>obtain⟨t,rfl⟩:=r;rfl
 | _=>exact absurd (show false=true from f) Ak
theorem ua{x:V}:∀{xs:List V}{us:List KB},Vals xs us->xs.all qi=true->us.any (eqU x)=xs.any fun y=>eqV y x
 | _,_,.nil,_=>rfl
 | y::xs,u::us,.cons r t,f=>by
  rw[JP,BR] at f;rw[Ds,Ds,a6u r f.1,ua t f.2]
theorem ro{x:V}(c:RelV x v)(b:qi x=true):∀{xs:List V}{us:List KB},Vals xs us->xs.all qi=true->∀u∈us,Ii A s u v (eqU x u)
 | _,_,.nil,_=>fun u a=>by cases a
 | y::xs,u::us,.cons r t,f=>fun d a=>by
  rw[JP,BR] at f;rcases Ah.mp a with rfl|a
  . rw[a6u r f.1];exact aen r c f.1 b
  . exact ro c b t f.2 d a
noncomputable def inV(x:V)(xs:List V):Bool:=xs.any fun y=>eqV y x
noncomputable def rIn(K:Ab)(neg:Bool):R2:=fun x y H Q=>∃p xs,y=.ref p/\(SqL K H p xs\/SqT K H p xs)/\qi x=true/\xs.all qi=true/\Q (.bl (if neg then !inV x xs else inV x xs)) H
theorem sn:OpR X (KL .In) (rIn X.K false):=by
 intro c s σ H x y v u Q I b d h;obtain⟨p,xs,rfl,hq,a,fs,q⟩:=h;cases d;rcases hq with hq|hq
 . obtain⟨its,r,pl,hz⟩:=I.list hq;refine SeqAt.in_listAt (eqU x) pl.isList (fun w hw=>ro b a r fs w (by simpa using hw)) ⟨.bl _,H,I,rfl,?_⟩;rw[show its.toArray.any (eqU x)=its.any (eqU x) by simp,ua r fs];exact q
 . obtain⟨its,r,pl,hz⟩:=I.tuple hq;refine SeqAt.in_tupleAt (eqU x) pl (fun w hw=>ro b a r fs w (by simpa using hw)) ⟨.bl _,H,I,rfl,?_⟩;rw[show its.toArray.any (eqU x)=its.any (eqU x) by simp,ua r fs];exact q
theorem a1t:OpR X (KL .NotIn) (rIn X.K true):=by
 intro c s σ H x y v u Q I b d h;obtain⟨p,xs,rfl,hq,a,fs,q⟩:=h;cases d;rcases hq with hq|hq
 . obtain⟨its,r,pl,hz⟩:=I.list hq;refine SeqAt.notIn_listAt (eqU x) pl.isList (fun w hw=>ro b a r fs w (by simpa using hw)) ⟨.bl _,H,I,rfl,?_⟩;rw[show its.toArray.any (eqU x)=its.any (eqU x) by simp,ua r fs];exact q
 . obtain⟨its,r,pl,hz⟩:=I.tuple hq;refine SeqAt.notIn_tupleAt (eqU x) pl (fun w hw=>ro b a r fs w (by simpa using hw)) ⟨.bl _,H,I,rfl,?_⟩;rw[show its.toArray.any (eqU x)=its.any (eqU x) by simp,ua r fs];exact q
theorem le:ku X (.builtin "len") (fun xs H Q=>∃p ys,xs=[.ref p]/\(SqL X.K H p ys\/SqT X.K H p ys)/\Q (.int ys.length) H):=by
 intro c s σ H xs us Q I r h;obtain⟨p,ys,rfl,hq,q⟩:=h;obtain⟨u,rfl,d⟩:=ut r;cases d;have hn:=u5;rcases hq with hq|hq
 . obtain⟨its,b,pl,hz⟩:=I.list hq;have a:=b.length;exact Calls.call_len_list pl.isList (by simp only[Ao]<;>lia) ⟨.int ys.length,H,I.tok _,⟨s.toks+1,by rw[Ao,a]⟩,q⟩
 . obtain⟨its,b,pl,hz⟩:=I.tuple hq;have a:=b.length;exact len_tuple pl (by simp only[Ao]<;>lia) ⟨.int ys.length,H,I.tok _,⟨s.toks+1,by rw[Ao,a]⟩,q⟩
theorem vo:ku X (.builtin "len") (fun xs H Q=>∃z,xs=[.str z]/\z.length<=KF/\Q (.int z.length) H):=by
 intro a s σ H xs us Q I r h;obtain⟨z,rfl,hz,q⟩:=h;obtain⟨u,rfl,t,rfl⟩:=ut r;have hn:=u5;exact len_str (by lia) ⟨.int z.length,H,I.tok _,⟨_,rfl⟩,q⟩
theorem jl:ku X (.type "list") (fun xs H Q=>∃p ys,xs=[.ref p]/\(SqL X.K H p ys\/SqT X.K H p ys)/\∀l,H l=none->Q (.ref l) (upd H l (.lst ys))):=by
 intro d s σ H xs us Q I r h;obtain⟨p,ys,rfl,hq,q⟩:=h;obtain⟨u,rfl,j⟩:=ut r;cases j;have fin:∀(its:List KB),Vals ys its->ys.length<=KF->∀(h':KU) (c:Nat),(∀b i,s.heap.get? b=some i->h'.get? b=some i)->
  h'.get? s.heap.objs.size=some {cls:=.type "list",dict:=none,data:=.seq its.toArray c,slots := #[]}->EP X d σ Q (.ref s.heap.objs.size) {s with heap:=h'}:=fun its a hz h' c kp e =>
  ⟨.ref s.heap.objs.size,_,I.laid (t':=s.toks) kp (Aj _) (show ObjOk X.prog X.w _ h' _ (.lst ys) from⟨hz,its,c,a,e⟩),rfl,q _ (I.hok.fresh (Aj _))⟩
 rcases hq with hq|hq
 . obtain⟨its,a,pl,hz⟩:=I.list hq;have f:=a.length;obtain⟨o,g,hc,n,hd⟩:=pl.isList;exact call_list_seq p (.inl rfl) g hc hd (fun h' c kp e=>fin its a hz h' c kp e) (by simp only[Ao]<;>lia)
 . obtain⟨its,a,pl,hz⟩:=I.tuple hq;have f:=a.length;obtain⟨o,g,hc,n,hd⟩:=pl;exact call_list_seq p (.inr rfl) g hc hd (fun h' c kp e=>fin its a hz h' c kp e) (by simp only[Ao]<;>lia)
theorem qh:ku X (.type "tuple") (fun xs H Q=>∃p ys,xs=[.ref p]/\((SqL X.K H p ys/\∀l,H l=none->Q (.ref l) (upd H l (.tup ys)))\/(SqT X.K H p ys/\Q (.ref p) H))):=by
 intro a s σ H xs us Q I r h;obtain⟨p,ys,rfl,h⟩:=h;obtain⟨u,rfl,g⟩:=ut r;cases g;rcases h with⟨hq,q⟩|⟨hq,q⟩
 . obtain⟨its,c,pl,hz⟩:=I.list hq;have f:=c.length;refine call_tuple_list pl.isList (fun h' kp=>?_) (by simp only[Ao]<;>lia);have d:Inv X a σ H {s with heap:=h'}:=I.kept (t':=s.toks) kp;have i:Inv X a σ (upd H h'.objs.size (.tup ys)) {s with heap:=h'.push {cls:=.type "tuple",data:=.seq its.toArray}} :=
    d.laid (t':=s.toks) (fun b o e=>Ac _ e) (Aj _) (show ObjOk X.prog X.w _ _ _ (.tup ys) from⟨hz,its,c,IsTup.new _ _⟩)
   exact⟨.ref h'.objs.size,_,i,rfl,q _ (d.hok.fresh (Aj _))⟩
 . obtain⟨its,c,pl,hz⟩:=I.tuple hq;exact call_tuple_same pl ⟨.ref p,H,I,rfl,q⟩
noncomputable def tyV(K:Ab)(T:String)(x:V)(H:Hp):Prop:=match x with
 | .str _=>T="str"
 | .int _=>T="int"
 | .ref p=>(T="list" /\ ∃xs,SqL K H p xs)\/(T="tuple" /\ ∃o,K.lookup p=some o/\o.cls=.type "tuple" /\ o.dict=none)\/
  (T="dict" /\ ((∃kvs,H p=some (.dK kvs))\/∃kvs,H p=some (.dT kvs)))\/(T="set" /\ ∃S n,H p=some (.set S n))
 | _=>False
theorem a7c{x:V}(I:Inv X f σ H s)(r:RelV x v)(ty:tyV X.K T x H):
 s.TypeIs v T/\∀a,v=.ref a->∃ob,s.heap.get? a=some ob/\ob.dict=none:=by
 cases x with
 | str z =>
  obtain⟨t,rfl⟩:=r;cases (show T="str" from ty);exact⟨Ih s z t,fun _ e=>nomatch e⟩
 | int i =>
  obtain⟨t,rfl⟩:=r;cases (show T="int" from ty);exact⟨typeIs_int s i t,fun _ e=>nomatch e⟩
 | ref p =>
  cases r;rcases ty with⟨rfl,xs,hq⟩|⟨rfl,o,b,hc,hd⟩|⟨rfl,b⟩|⟨rfl,S,n,b⟩
  . obtain⟨its,_,pl,_⟩:=I.list hq;refine⟨pl.isList.typeIs,fun a e=>?_⟩;cases e;obtain⟨o,n,e,c,hd,_⟩:=pl;exact⟨o,e,hd⟩
  . refine⟨⟨o,I.kIn p o b,hc⟩,fun a e=>?_⟩;cases e;exact⟨o,I.kIn _ o b,hd⟩
  . have z:∃o,s.heap.get? p=some o/\o.ExactDict:=by
     rcases b with⟨kvs,b⟩|⟨kvs,b⟩
     . obtain⟨_,_,_,_,o,_,_,e,ex,_⟩:=I.hok p _ b;exact⟨o,e,ex⟩
     . obtain⟨_,_,_,_,o,_,_,e,ex,_⟩:=I.hok p _ b;exact⟨o,e,ex⟩
    obtain⟨o,e,ex⟩:=z;refine⟨⟨o,e,ex.1⟩,fun a d=>?_⟩;cases d;exact⟨o,e,ex.2.1⟩
  . obtain⟨o,_,_,_,e,ex,_⟩:=I.hok p _ b;refine⟨⟨o,e,ex.1⟩,fun a d=>?_⟩;cases d;exact⟨o,e,ex.2.1⟩
 | _=>exact Co ty
noncomputable def tBM0(K:Ab)(T:String)(r:V->List V->Hp->VK->Prop)(to:TE):TE:=fun σ H Q=>to σ H fun x H1=>tyV K T x H1/\r x [] H1 Q
noncomputable def tBM(K:Ab)(T:String)(r:V->List V->Hp->VK->Prop)(to:TE)(t:TA):TE:=fun σ H Q=>to σ H fun x H1=>tyV K T x H1/\t σ H1 fun xs H2=>r x xs H2 Q
theorem aeg{id:String}(p:PlainAttrs T)(slot:Slot T name id)(f:typeOf (.builtin id)=pure (.type "method_descriptor"))(hm:MtR X id r)(n:PE X o to)(b:autoParam (KQ o name X.env (eval o X.env)=eval o X.env) a3_)(c:autoParam ((e.endLine==d.line)=true) a3_):PE X (.Call (.Attribute o name e) [] [] d) (tBM0 X.K T r to):=by
 intro a s σ H Q I h;refine wpAny_Call_method0_late b c (thn (n a s σ H _ I h) fun v u ⟨x,l,i,g,ty,m⟩=>?_);obtain⟨q,j⟩:=a7c i g ty;exact⟨T,id,p,slot,f,q,j,CH rfl (PySem.evalArgs_none (hm a u σ l x [] v [] Q i g .nil m))⟩
theorem ab6{t:TA}{id:String}(A:PlainAttrs T)(slot:Slot T name id)(l:typeOf (.builtin id)=pure (.type "method_descriptor"))(hm:MtR X id r)(z:PE X o to)(ha:PA X (e::es) t)(f:autoParam (KQ o name X.env (eval o X.env)=eval o X.env) a3_)(i:autoParam (((KP b (KD (e::es) X.env)).all (fun x => !x.1) && (Kj b (KO [] X.env)).all (fun x=>x.1.isSome)
 && decide ((e::es).length+([]:List Keyword).length+(if ([]:List Keyword).isEmpty then 0 else 1)<30))=true) a3_)(g:autoParam ((j.endLine==b.line)=true) a3_)(hs:autoParam (KD (e::es) X.env=(false,eval e X.env)::KD es X.env) a3_)(d:autoParam ((KP b (KD es X.env)).any (·.1)=false) a3_):
 PE X (.Call (.Attribute o name j) (e::es) [] b) (tBM X.K T r to t):=by
 intro c s σ H Q I h;refine Hu f i g rfl (thn (z c s σ H _ I h) fun v E ⟨x,w,p,n,ty,J⟩=>?_);obtain⟨L,u⟩:=a7c p n ty;refine⟨T,id,A,slot,l,L,u,?_⟩;have q:=ha b c E σ w _ p J;rw[hs] at q |-;refine CH (by show (false || (KP b (KD es X.env)).any (·.1))=false;rw[d]<;>rfl) (DR ?_);exact thn q fun us y ⟨vs,C,F,D,G⟩=>hm c y σ C x vs v us Q F n D G
/- xs.append(e),list.index on a module's tuple .. are MtR facts of 06m -/
noncomputable def MtM(X:Cx)(id:String)(r:V->List V->Hp->VK->Prop):Prop :=
 ∀(pins:List (KA×Obj)) (s:KG) (σ:St) (H:Hp) (x:V) (xs:List V) (v:KB) (us:List KB) (Q:VK),Inv X pins σ H s->RelV x v->Vals xs us->r x xs H Q->
   KC (KE X.prog X.w) X.A (call (.builtin id) (v::us)) (EP X pins σ Q) X.xe s
theorem Vals.one:∀{x:V}{us:List KB},Vals [x] us->∃u,us=[u]/\RelV x u
 | _,_,.cons r .nil=>⟨_,rfl,r⟩
theorem Vals.zero:∀{us:List KB},Vals [] us->us=[]
 | _,.nil=>rfl
theorem Vals.dropLast(h:Vals xs us):Vals xs.dropLast us.dropLast:=by
 induction h with
 | nil=>exact .nil
 | cons r t ih =>
  cases t with
  | nil=>exact .nil
  | cons q t'=>exact .cons r ih
theorem a5p(l:List α):l.eraseIdx (l.length-1)=l.dropLast:=by grind
theorem Inv.lset{its:List KB}(I:Inv X a σ H s)(g:H l=some (.lst xs))(e:s.heap.get? l=some {cls:=.type "list",data:=.seq its.toArray n})(b:f its.toArray=its'.toArray)(c:Vals ys its')(hz:ys.length<=KF):
 Inv X a σ (upd H l (.lst ys)) {s with heap:=s.heap.update l (Es f),toks:=t'}:=by
 have q:=PySem.IsL.update e f;rw[b] at q;refine I.write (x:=l) (e:=l) (by rw[g];exact trivial) (.inl rfl) (fun h u hb d=>(By s.heap (Es f) (AO hb)).trans d) ⟨_,q⟩ ?_;exact⟨hz,its',_,c,q⟩
theorem Inv.lnew(I:Inv X a σ H s)(b:Vals ys its)(hz:ys.length<=KF):
 Inv X a σ (upd H s.heap.objs.size (.lst ys)) {s with heap:=s.heap.push {cls:=.type "list",data:=.seq its.toArray},toks:=t'} :=
 I.laid (fun _ _ q=>Ac _ q) (Aj _) ⟨hz,its,0,b,An _ rfl⟩
theorem Inv.fresh(I:Inv X a σ H s):H s.heap.objs.size=none:=I.hok.fresh (Aj _)
theorem Inv.lstM(I:Inv X a σ H s)(b:H l=some (.lst xs)):xs.length<=KF/\∃(its:List KB) (n:Nat),Vals xs its/\xs.length=its.length/\s.heap.get? l=some {cls:=.type "list",data:=.seq its.toArray n}:=by
 obtain⟨z,its,n,r,e⟩:=I.hok l _ b;exact⟨z,its,n,r,r.length,e⟩
theorem a9r(h:n<=KF):Ei n=false:=by
 unfold Ei;exact decide_eq_false (by lia)
noncomputable def a44:V->List V->Hp->VK->Prop:=fun x vs H Q=>∃l xs y,x=.ref l/\vs=[y]/\H l=some (.lst xs)/\xs.length<KF/\Q .non (upd H l (.lst (xs++[y])))
theorem jo:MtM X "list.append" a44:=by
 intro b s σ H x vs v us Q I d f h;obtain⟨l,xs,y,rfl,rfl,a,hz,q⟩:=h;cases d;obtain⟨u,rfl,c⟩:=f.one;obtain⟨z,its,n,r,hl,e⟩:=I.lstM a;refine Ij F.slot_list_append ⟨_,e,rfl⟩ F.entry_list_append (F.args_list_append_2 _ _) (PySem.list_append l its.toArray n u (by rw[Ao];lia)) ⟨e,?_⟩;refine⟨.non,_,I.lset (its':=its++[u]) a e (by simp) (r.append (.cons c .nil)) ?_,rfl,q⟩;rw[Ai,Be]
 lia
noncomputable def ach:V->List V->Hp->VK->Prop:=fun x vs H Q=>∃l b xs zs,x=.ref l/\vs=[.ref b]/\H l=some (.lst xs)/\H b=some (.lst zs)/\xs.length+zs.length<=KF/\Q .non (upd H l (.lst (xs++zs)))
theorem qg:MtM X "list.extend" ach:=by
 intro d s σ H x vs v us Q I o w h;obtain⟨l,b,xs,zs,rfl,rfl,f,m,hz,q⟩:=h;cases o;obtain⟨u,rfl,i⟩:=w.one;cases i;obtain⟨z,its,n,r,hl,e⟩:=I.lstM f;obtain⟨y,a,n2,p,g,j⟩:=I.lstM m;have hsz:its.toArray.size+a.toArray.size<=KF:=by rw[Ao,Ao];lia
 have c:¬ (!its.toArray.isEmpty && Ei (its.toArray.size+a.toArray.size))=true:=by
  rw[a9r hsz,Bool.and_false];exact Ak
 refine Ij F.slot_list_extend ⟨_,e,rfl⟩ F.entry_list_extend (F.args_list_extend_2 _ _)
  (AutoSeq1.list_extend_list_list_0 l its.toArray n b a.toArray n2 c (by rw[Ao];lia) (by lia)) ⟨e,j,?_⟩
 refine⟨.non,_,I.lset (its':=its++a) f e (by simp) (r.append p) ?_,rfl,q⟩;rw[Ai]
 lia
noncomputable def rPop:V->List V->Hp->VK->Prop:=fun x vs H Q=>∃l xs y,x=.ref l/\vs=[]/\H l=some (.lst xs)/\xs[xs.length-1]?=some y/\Q y (upd H l (.lst xs.dropLast))
theorem a1h:MtM X "list.pop" rPop:=by
 intro d s σ H x vs v us Q I i j h;obtain⟨l,xs,y,rfl,rfl,c,g,q⟩:=h;cases i;have b:=j.zero;subst b;obtain⟨z,its,n,r,hl,e⟩:=I.lstM c;obtain⟨u,m,f⟩:=r.get g;have a:its.toArray[its.toArray.size-1]?=some u:=by
  show its.toArray[its.length-1]?=some u;rw[<- BO,<- hl];exact m
 refine Ij F.slot_list_pop ⟨_,e,rfl⟩ F.entry_list_pop (F.args_list_pop_1 _) (MeetsSeq.list_pop_last l its.toArray n u a (by rw[Ao];lia)) ⟨e,?_⟩;refine⟨y,_,I.lset (its':=its.dropLast) c e ?_ r.dropLast ?_,f,q⟩
 . show its.toArray.eraseIdxIfInBounds (its.toArray.size-1)=its.dropLast.toArray;rw[Ao,List.eraseIdxIfInBounds_toArray,a5p]
 . rw[List.length_dropLast]
   lia
noncomputable def afc:V->List V->Hp->VK->Prop:=fun x vs H Q=>∃l xs,x=.ref l/\vs=[]/\H l=some (.lst xs)/\Q .non (upd H l (.lst []))
theorem a1i:MtM X "list.clear" afc:=by
 intro c s σ H x vs v us Q I d f h;obtain⟨l,xs,rfl,rfl,b,q⟩:=h;cases d;have a:=f.zero;subst a;obtain⟨z,its,n,r,hl,e⟩:=I.lstM b;refine Ij F.slot_list_clear ⟨_,e,rfl⟩ F.entry_list_clear (F.args_list_clear_1 _) (AutoSeq1.list_clear_list_0 l its.toArray n (by rw[Ao];lia)) ⟨e,?_⟩;exact⟨.non,_,I.lset (its':=[]) (ys:=[]) b e rfl .nil (AH _),rfl,q⟩
noncomputable def rCat:R2:=fun x y H Q=>∃l b xs zs,x=.ref l/\y=.ref b/\H l=some (.lst xs)/\H b=some (.lst zs)/\xs.length+zs.length<=KF/\∀p,H p=none->Q (.ref p) (upd H p (.lst (xs++zs)))
theorem ky:OpR X (Ki .Add) rCat:=by
 intro c s σ H x y v u Q I i o h;obtain⟨l,b,xs,zs,rfl,rfl,p,g,hz,q⟩:=h;cases i;cases o;obtain⟨z,its,n,r,hl,e⟩:=I.lstM p;obtain⟨w,a,n2,m,d,f⟩:=I.lstM g;refine PySem.P.add_list e f ?_ (by rw[Ao,Ao];lia);have j:its.toArray++a.toArray=(its++a).toArray:=by simp
 rw[j];exact⟨.ref _,_,I.lnew (t':=s.toks) (r.append m) (by rw[Ai];lia),rfl,q _ I.fresh⟩
end L2
namespace Att
open PySem PySem.W PySem.Calls PyProof.Rows
theorem zo:∀(ns:List Int) (vs:List KB),WellAll P h vs (ns.map WData.int)->IntsAre vs ns:=by
 intro ns;induction ns with
 | nil =>
  intro vs w;rw[JU] at w;cases w;exact .nil
 | cons n ns ih =>
  intro vs w;rw[As] at w;cases w with
  | cons a b =>
   cases a;exact .cons _ _ (ih _ b)
theorem a7b{l:OpenLaw}(hn:l.most=some n)(b:l.row.toRowW.claim.pre args=true)(i:WellAll P h c args):
 ∃a vs ns,c=[Value.ref a]/\args=[WData.list (ns.map WData.int)]/\h.get? a=some {cls:=.type "list",data:=.seq vs.toArray}/\IntsAre vs ns/\ns.length<=n:=by
 have j:WShape.hasAll [] args [.list .int]=true:=(pre_splitW b).1;have hc:l.pre.holds [] {args:=args}=true:=(pre_splitW b).2;obtain⟨d,r,rfl,s,m⟩:=hasAllW_cons j;obtain rfl:=hasAllW_nil m;obtain⟨xs,rfl,o⟩:=hasW_list s;obtain⟨ns,rfl⟩:=items_int o;have e:ns.length<=n:=by
  unfold OpenLaw.pre at hc;have g:(WTm.not (.lt (.lit (.int (n:Int))) (.len (.arg 0)))).holds [] {args:=[.list (ns.map .int)]}=true:=by
   have g:=(holds_andW hc).1;rw[hn] at g;exact g
  have f:=condW_of g (w_not (w_lt w_lit (w_len_list (w_arg rfl))));rw[Ad] at f;refine Gi fun q=>?_;have p:(n:Int)<((ns.length:Nat):Int):=by omega
  first
   | (rw[decide_eq_true p] at f;exact absurd f (by decide))
   | (simp at f;omega)
 cases i with
 | cons w1 w2 =>
  cases w2;cases w1 with
  | list ho hall=>exact⟨_,_,ns,rfl,rfl,ho,zo ns _ hall,e⟩
theorem a70(l:OpenLaw)(args:List WData):l.row.toRowW.claim.post args (.bool true) args=true :=
 postW_of (r:=l.row.toRowW) (X:=(true==true))
  (show WShape.has [] (.bool true) .bool=true by first|rfl|decide|simp[WShape.has,WShape.arms,WShape.armsAll])
  (show (WTm.eq .res (.lit (.bool true))).value [] {args:=args,res:=some (.bool true),after:=args}=some (.bool (true==true)) from w_eq_bool (w_res rfl) w_lit) rfl
theorem attach_call{l:OpenLaw}(hn:l.most=some n)(v:d.params.defaults=[])(call:∀(w:KY) (s₀ b:KG) (mg s:Str->Option KB) (h:KA) (o:Obj) (u cd e:KB) (a:KA) (vs:List KB) (ns:List Int),
 Ground q g [] L w s₀ mg s b.heap->H w b.heap->
 b.heap.get? h=some o->o.data=.func (docDef d.name d.params d.body d.scope u cd e)->b.heap.CodeRec cd d.name->mg d.name=some (.ref h)->
 b.heap.get? a=some {cls:=.type "list",data:=.seq vs.toArray}->IntsAre vs ns->ns.length<=n->b.gens = #[]->
 Km (KE l.prog w) callerA (.call (.ref h) ⟨[.ref a],[]⟩) (fun r s'=>r=.ok (.ret (.bool true))/\OldK b.heap s'.heap/\s'.os=b.os/\AllBare s'.gens) b):
 WalkO q g L H l.row.toRowW d [] (fun f vs=>JA f vs):=by
 intro w s₀ b mg s G Y h o u cd e E kV J hd hcd z y N args C as i A M p I;obtain rfl:E=.none:=Dflts.none z v;obtain rfl:kV=.none:=Dflts.noKw z;obtain⟨a,vs,ns,rfl,rfl,m,c,j⟩:=a7b hn i p;refine enter_call (DK (call w s₀ b mg s h o u cd e a vs ns G Y J (fd_plain hd) hcd y m c j N) fun r s' hq=>?_);obtain⟨rfl,D,F,O⟩:=hq;exact⟨.inl ⟨.bool true,.bool true,[],rfl,fun _=>rfl,.bool true,a70 l _,fun _=>⟨List.Pairwise.nil,fun _ hm=>(nomatch hm)⟩⟩,D,F,O⟩
end Att
namespace L2
open PyProof.Rows
theorem a0f:∀{vs:List KB}{ns:List Int},IntsAre vs ns->Vals (ns.map V.int) vs
 | _,_,.nil=>.nil
 | _,_,.cons n t h=>.cons ⟨t,rfl⟩ (a0f h)
noncomputable def Only(H:Hp):Prop:=∀b,H b=none\/∃o xs,H b=some (.frz o (.lst xs))
theorem a9j{K:Ab}{k:Nat}{x:Str}(N:K.In c.heap)(C:c.heap.Ns KH mg)(hb:c.heap.Ns builtinsNs R)(J:∀x:Str,x≠"__name__" -> R x=bootBuiltins x)(l:c.heap.NoLimit)(hg:c.gens = #[])(ha:c.heap.get? a=some {cls:=.type "list",data:=.seq vs.toArray})(hi:IntsAre vs ns)(hl:ns.length<=KF)(hr:Room k callerA)(F:∀base:KU,K.In base->base.Ns KH mg->FnOk P w K mg base CX k O fd [x] sp)(j:∀(s:KG) (u:KB),BindsTo s fd ⟨[u],[]⟩ [(x,u)])(L:∀H:Hp,Only H->SqL K H a (ns.map V.int)->sp [.ref a] H (fun v _=>v=.bl true) fun _ _ _=>False)(I:∀H e s',CX [] H c (fun _ _ _=>False) e s'->False):
 Km (KE P w) callerA (.call (.ref O) ⟨[.ref a],[]⟩) (fun r s'=>r=.ok (.ret (.bool true))/\OldK c.heap s'.heap/\s'.os=c.os/\AllBare s'.gens) c:=by
 have T:=a0f hi;have D:=hi.length;have i:∀H:Hp,Only H->SqL K H a (ns.map V.int)->HOk P w H c.heap->(∀b,H b≠none->b=a)->(H a≠none->K.lookup a=none)->
  Km (KE P w) callerA (.call (.ref O) ⟨[.ref a],[]⟩) (fun r s'=>r=.ok (.ret (.bool true))/\OldK c.heap s'.heap/\s'.os=c.os/\AllBare s'.gens) c:=by
  intro H M Y hok S hK;have f:∀{b:KA} {o:Obj},c.heap.get? b=some o->H b=none->(hidT c.heap H).get? b=some o:=fun e n=>a92 e n;have E:∀{b:KA} {o:Obj} {es:Array DictEntry} {ep:Nat},c.heap.get? b=some o->o.data=.dict es ep->H b=none:=fun {b o es ep} e d=>by
   cases q:H b with
   | none=>rfl
   | some u =>
    have G:b=a:=S b (by rw[q];simp);subst G;rw[ha] at e;cases e;have d':Data.seq vs.toArray _=Data.dict es ep:=d;cases d'
  have g:∀{b:KA} {m:Str->Option KB},c.heap.Ns b m->(hidT c.heap H).Ns b m:=fun {b m} ⟨o,es,ep,e,d,r⟩=>⟨o,es,ep,f e (E e d),d,r⟩
  have y:K.In (hidT c.heap H):=fun b o e=>f (N b o e) (by
   cases q:H b with
   | none=>rfl
   | some u =>
    have G:b=a:=S b (by rw[q];simp);subst G;rw[hK (by rw[q];simp)] at e;cases e)
  have U:Mod K mg (hidT c.heap H):=⟨y,g C,⟨R,g hb,J⟩,let ⟨mc,h1,h2⟩:=l;⟨mc,g h1,h2⟩⟩
  have e0:Env0 P w K mg (hidT c.heap H) callerA [] c H:=⟨rfl,U,fun b o e=>ac0 e,IL (a6e _ _),trivial,fun b hb=>absurd (show b∈([]:List KA) from hb) (by simp),hok,.of_eq hg⟩
  refine DK ((F _ y (g C)).run callerA [] c H ⟨[.ref a],[]⟩ [.ref a] [.ref a] _ _ hr e0 (j c (.ref a)) (.cons rfl .nil) (L H M Y)) fun r s' h=>?_;cases r with
  | error e=>exact (I H e s' h).elim
  | ok fl =>
   cases fl with
   | next=>exact Co h
   | brk=>exact Co h
   | cont=>exact Co h
   | ret u =>
    obtain⟨v,H',os,bare,un,p,r',q⟩:=h;have Z:v=.bl true:=q;subst Z;obtain rfl:u=Value.bool true:=r';refine⟨rfl,OldK.of_keep fun b o e=>?_,os,bare⟩;cases q:H b with
    | none=>exact un.keep b o e q (by intro z;exact absurd (show b∈([]:List KA) from z) (by simp)) (by simp)
    | some u =>
     rcases M b with z|⟨ob,xs,z⟩
     . rw[q] at z;cases z
     . have X:=un.frzs b ob _ z;obtain⟨Q,_⟩:=hok b _ z;obtain⟨e2,_⟩:=p b _ X;rw[e] at Q;cases Q;exact e2
 cases hk:K.lookup a with
 | some o =>
  have e:=N a o hk;rw[ha] at e;cases e;refine i (fun _=>none) (fun _=>.inl rfl) (.inr ⟨_,vs.toArray,_,hk,rfl,rfl,rfl,by rw[Ao,D];exact hl,by simpa using T⟩) (fun b u z=>by have A:(none:Option HO)=some u:=z;cases A) (fun b z=>absurd rfl z) fun z=>absurd rfl z
 | none =>
  refine i (fun b=>if b=a then some (.frz {cls:=.type "list",data:=.seq vs.toArray} (.lst (ns.map V.int))) else none) (fun b=>?_) (.inl (.inr ⟨{cls:=.type "list",data:=.seq vs.toArray},if_pos rfl⟩)) (fun b u z=>?_) (fun b z=>?_) fun _=>hk
  . by_cases hb:b=a
    . exact .inr ⟨_,_,if_pos hb⟩
    . exact .inl (if_neg hb)
  . by_cases hb:b=a
    . have A:=(if_pos hb).symm.trans z;cases A;subst hb;exact⟨ha,by rw[Ad];exact hl,vs,_,T,ha⟩
    . have A:=(if_neg hb).symm.trans z;cases A
  . by_cases hb:b=a
    . exact hb
    . exact absurd (if_neg hb) z
theorem walk_of{l:Hi}{k:Nat}{K:Params->Ab}{CX:KY->CXT}{sp:KY->Sp}{x:Str}(hn:l.most=some n)(C:n<=KF)(y:d.params.defaults=[])(hr:Room k callerA)(O:∀(w:KY) (h:KU),I w h->(K w.params).In h)(F:∀(w:KY) (mg:Str->Option KB) (m:KA) (h:KU),(K w.params).In h->h.Ns KH mg->mg d.name=some (.ref m)->
 ∃fd:Kr,(∀(s:KG) (u:KB),BindsTo s fd ⟨[u],[]⟩ [(x,u)])/\
  ∀base:KU,(K w.params).In base->base.Ns KH mg->FnOk l.prog w (K w.params) mg base (CX w) k m fd [x] (sp w))(p:∀(w:KY) (H:Hp) (a:KA) (ns:List Int),ns.length<=n->Only H->SqL (K w.params) H a (ns.map V.int)->sp w [.ref a] H (fun v _=>v=.bl true) fun _ _ _=>False)(r:∀(w:KY) (H:Hp) (s:KG) (e:KB) (s':KG),CX w [] H s (fun _ _ _=>False) e s'->False):
 JQ q z R I l.row.toRowW d [] (fun f vs=>JA f vs):=by
 refine Att.attach_call hn y fun w s₀ E mg S m o U cd P a vs ns G Y Q hd hcd A j i c N=>?_;have D:=O w _ Y;obtain⟨fd,hb,L⟩:=F w mg m _ D G.T.g A;exact a9j D G.T.g G.T.b G.T.builtins G.T.nolimit N j i (Aw c C) hr L hb (fun H J M=>p w H a ns c J M) fun H e s'=>r w H E e s'
end L2
/- THE LAST THEOREM (shape;LID,My.* are yours):
 My.Adr: a structure of the addresses that your layer names (classes,functions);My.Txt K t: a structure (Prop) of the equations over K;
 My.txt_mk:{K} {implicit addresses ..} (e1:nsIn K KH "law"=some (some (.ref f))) (e2:K.lookup f=some ⟨oc,od,.func (fnOf "law" "law" params body scope dV kV doc pm an cdv ct),sl⟩) (e3:codeIn K cdv "law"=true) .. : ∃t,My.Txt K t
(the c k_is has no namespace: write k_is) -/
namespace L2
open PyProof.Rows
noncomputable def jz(s:KN)(j:Nat):KN:=match s with
 | .ClassDef _ _ _ body _ _ _ _ _ _ _=>body.getD j (.Pass ⟨0,0,0,0⟩)
 | _=>.Pass ⟨0,0,0,0⟩
noncomputable def ot(s:KN):Arguments:=match s with
 | .FunctionDef _ a _ _ _ _ _ _ _ _=>a
 | _=>{posonlyargs:=[],args:=[],vararg:=none,kwonlyargs:=[],kw_defaults:=[],kwarg:=none,defaults:=[]}
noncomputable def lj(s:KN):List KN:=match s with
 | .FunctionDef _ _ b _ _ _ _ _ _ _=>b
 | _=>[]
noncomputable def iw(s:KN):Scope:=match s with
 | .FunctionDef _ _ _ _ _ _ sc _ _ _=>sc
 | _=>{kind:=.function,names:=[],isGenerator:=false,isCoroutine:=false}
abbrev CX0:CXT:=fun _ _ _ _ _ _=>False
abbrev E0:XK:=fun _ _ _=>False
theorem a18:ml CX0 X E0:=fun _ _ _ _ _ _ _ h=>h.elim
structure Fun(K:Ab)(x qual:Str)(st:KN)(f:KA)(fd:Kr):Prop where
 ex:∃(oc:KB) (od:Option KA) (kV doc pm:KB) (an:Option KA) (cdv ct:KB) (osl:Array (Option KB)),
  fd=CI x qual (ot st) (lj st) (iw st) .none kV doc pm an cdv ct/\K.lookup f=some ⟨oc,od,.func fd,osl⟩/\HP K cdv qual=true
 kp:Cs K (.ref f)=true
theorem Fun.ok{K:Ab}{x:Str}{st:KN}{k:Nat}(F:Fun K x b st f fd)(S:FnScope N ps (iw st))(len:∀vs H Q E,sp vs H Q E->vs.length=ps.length)(c:∀(a:KB) (A:Kq) (outer:List Env) (s:KG) (H:Hp) (vs:List V) (Q:VK) (E:XK),Room k (A.deeper (envOfC b (iw st) s.heap.objs.size f a))->sp vs H Q E->
 ∃t,PSs (cxOf CX0 P w K mg base N b (iw st) f a A outer s H E).nox (lj st) t/\t {nx:=fun _ H'=>Q .non H',rt:=Q} (start N vs) H):FnOk P w K mg base CX0 (k+1) f fd ps sp:=by
 obtain⟨m,od,kV,i,l,j,a,ct,g,rfl,e,hcd⟩:=F.ex;refine afv e hcd S len fun A outer s H vs Q E hr d=>?_;obtain⟨t,h,q⟩:=c a A outer s H vs Q E hr d;exact⟨t,h.nox,q⟩
theorem Fun.binds{K:Ab}{x:Str}{st:KN}(F:Fun K x c st f fd)(h:∀(kV b e:KB) (d:Option KA) (a ct:KB) (us:List KB),us.length=ps.length->bindArgs (CI x c (ot st) (lj st) (iw st) .none kV b e d a ct) ⟨us,[]⟩=pure (ps.zip us)):Binds K fd ps []:=by
 obtain⟨i,od,kV,b,e,d,a,ct,g,rfl,j,hcd⟩:=F.ex;exact .all (h kV b e d a ct)
theorem fun_mk{K:Ab}{x:Str}{st:KN}{kV:KB}(l:K.lookup f=some ⟨i,od,.func (CI x a (ot st) (lj st) (iw st) .none kV d h g b ct),e⟩)(c:HP K b a=true)(k:Cs K (.ref f)=true):Fun K x a st f (CI x a (ot st) (lj st) (iw st) .none kV d h g b ct):=⟨⟨i,od,kV,d,h,g,b,ct,e,rfl,l,c⟩,k⟩
theorem l0{k:Nat}(hr:Room k A):A.units+1<cLine:=Ba (Dl (by decide:1<=64) _) hr.units
theorem l8(h:n<=1000):n<KF:=Ba h (by decide)
theorem pv(i:Nat){x:Str}(a:autoParam (X.N[i]?=some x) a3_)(b:autoParam (Vis X.env.scope x) a5_)(hd:autoParam ((x==("__debug__":Str))=false) a1_)(hcd:autoParam ((x==("__classdict__":Str))=false) a1_):PE X (.Name x pos) (tVar i):=ae6 a b hd hcd
noncomputable def Same(H H':Hp):Prop:=∀b o,H b=some o->H' b=some o
theorem Same.refl(H:Hp):Same H H:=fun _ _ h=>h
theorem Same.trans(a:Same H d)(b:Same d e):Same H e:=fun c o h=>b c o (a c o h)
theorem Same.free(e:Same H H')(h:H' l=Option.none):H l=Option.none:=by
 cases q:H l with
 | none=>rfl
 | some o =>
  rw[e l o q] at h;cases h
theorem Same.seq{K:Ab}(e:Same H H')(h:SqL K H a xs):SqL K H' a xs:=by
 rcases h with (h|⟨o,h⟩)|h
 . exact .inl (.inl (e _ _ h))
 . exact .inl (.inr ⟨o,e _ _ h⟩)
 . exact .inr h
set_option maxHeartbeats 16000000
noncomputable def blk(X:Cx)(N:List Str)(s:KG)(H:Hp)(sc:Scope)(cl:List (Str×KA))(C:KA)(ex:List KA):Cx where
 prog:=X.prog
 w:=X.w
 K:=X.K
 mg:=X.mg
 base:=X.base
 A:=X.A
 N:=N
 s₀:=s
 H₀:=H
 env:=compEnvC sc cl C X.env
 outer:=X.stack
 stack:=X.stack
 ex:=ex
 fn:=fun _=>false
 calm:=X.calm
 pn:=[]
 xe:=fun _ _=>False
theorem xv(I:Nat->KG->Prop)(turn:∀n s,I n s->KC (KE prog w) A (Kh it) (fun r i=>match r with
 | none=>R (.ok .next) i
 | some v=>KC (KE prog w) A (letOwnedTupleGo a it v) (fun _ e=>KC (KE prog w) A (assign a env v) (fun _ p =>
  KC (KE prog w) A (forIn d true fun c r=>if r=true then do let ok<-isTrue c env (eval c env);pure (ForInStep.yield ok) else pure (ForInStep.yield r)) (fun ok l =>
   if ok=true then KC (KE prog w) A (eval b env) (fun x q =>
    KC (KE prog w) A (call (.builtin "list.append") [f,x]) (fun _ y=>∃m,m<n/\I m y) (fun _ _=>False) q) (fun _ _=>False) l
   else ∃m,m<n/\I m l) (fun _ _=>False) p) (fun _ _=>False) e) (fun _ _=>False) i) (fun _ _=>False) s)(n:Nat)(h:I n s):
 Km (KE prog w) A (.compLoop (.ListComp b [⟨a,g,d,0⟩] scope pos) 0 it f env) R s:=by
 refine codeAny_loop rfl I (fun n s D=>?_) n h;show KC _ A ((compTurn (.ListComp b [⟨a,g,d,0⟩] scope pos) 0 it f env).onRaise (fun x=>do noteFrame x env;theTreesLotGoes x)) _ _ s;refine wpAny_noted ?_;rw[compTurn_list];refine Aa (EM (Aa (BM (turn n s D) (fun r i u=>?_) fun _ _ h'=>h'.elim)));cases r with
 | none=>exact Ae u
 | some v =>
  refine Aa (BM u (fun _ e j=>?_) fun _ _ h'=>h'.elim);refine Aa (BM j (fun _ p C=>Aa (BM C (fun ok l o=>?_) fun _ _ h'=>h'.elim)) fun _ _ h'=>h'.elim);cases ok with
  | false=>exact Ae ⟨rfl,o⟩
  | true =>
   exact Aa (Aa (BM o (fun x q E=>Aa (BM E (fun _ y z=>Ae (Ae ⟨rfl,z⟩)) fun _ _ h'=>h'.elim)) fun _ _ h'=>h'.elim))
noncomputable def PTs(X:Cx)(ifs:List Expr)(t:TT):Prop :=
 ∀(pins:List (KA×Obj)) (s:KG) (σ:St) (H:Hp) (Q:Bool->Hp->Prop),Inv X pins σ H s->t σ H Q->
   KC (KE X.prog X.w) X.A (forIn ifs true fun c r=>if r=true then do let ok<-isTrue c X.env (eval c X.env);pure (ForInStep.yield ok) else pure (ForInStep.yield r)) (TP X pins σ Q) X.xe s
noncomputable def tYes:TT:=fun _ H Q=>Q true H
theorem a3r:PTs X [] tYes:=fun _ _ _ H _ I h=>wpAny_tests_nil ⟨H,I,h⟩
theorem a46{t:TT}(h:PT X c t):PTs X [c] t:=fun a s σ H Q I q=>wpAny_tests_one (h a s σ H Q I q)
noncomputable def j6(σ:St)(ix:List Nat):St:=ix.map fun j=>(σ[j]?).getD none
noncomputable def rf(J:It)(H1:Hp)(σ:St)(ix:List Nat)(tc:TT)(te:TE)(Q:VK):Prop:=∀D,H1 D=none->
 ∃W:Nat->Nat->Hp->Prop,(∃m,W 0 m (upd H1 D (.lst [])))/\∀i m H,W i m H->
  (J.stop i H/\Q (.ref D) H)\/(J.go i H/\∀x H',J.yld i H x H'->tc (some x::j6 σ ix) H' fun b H2 =>
   if b=true then te (some x::j6 σ ix) H2 fun y H3=>∃ys,H3 D=some (.lst ys)/\ys.length<KF/\∃m',m'<m/\W (i+1) m' (upd H3 D (.lst (ys++[y])))
   else ∃m',m'<m/\W (i+1) m' H2)
noncomputable def uo(ix:List Nat)(wi:TI)(tc:TT)(te:TE):TE:=fun σ H Q=>wi σ H fun J H1=>rf J H1 σ ix tc te Q
theorem acu{x:Str}(I:Inv X E σ H s)(n:G.kind=.function)(U:N=x::A.map fun j=>(X.N[j]?).getD "")(a:∀y c,cl.lookup y=some c->X.env.cells.lookup y=some c)(h:∀y,((KS G X.env).names.lookup y=some .cell\/(KS G X.env).names.lookup y=some .free)->∃c,cl.lookup y=some c)(Q:∀j∈A,∃y,X.N[j]?=some y/\X.env.kindOf y=some .cell/\(KS G X.env).names.lookup y=some .cell)(g:∀b∈W,FpOk X E H b)(S:∀b∈W,b<s.heap.objs.size)(P:M.Ns s.heap.objs.size m)(F:∀b o,s.heap.get? b=some o->M.get? b=some o):
 Inv (blk X N s H G cl s.heap.objs.size W) [] (none::j6 σ A) H {s with heap:=M,toks:=tk}:=by
 have fresh:H s.heap.objs.size=none:=I.hok.fresh (Aj _);refine⟨⟨I.ok.mod,n,I.ok.glob,I.ok.blt,Aj _,fun y z c M Y=>I.ok.inj y z c (a y c M) (a z c Y),fun y J=>h y J,fun y c z _=>absurd (show false=true from z) (by decide),I.ok.hd,I.ok.frames,.inl rfl,
  fun b hb=>⟨AC (S b hb),fun y c e=>(g b hb).2.2.2.2.1 y c (a y c e)⟩,I.bs,Aw I.ok.bsz I.sz,fun b o e hb=>?_,fun b hb z=>?_,I.stack,I.stkFree⟩,
  rfl,I.bare,Un.kept F,⟨m,P,fun i y v e1 T e3=>?_⟩,fun y c e=>?_,fresh,fun y c e=>I.freeC y c (a y c e),fun p hp=>absurd (show p∈([]:List (KA×Obj)) from hp) (by simp),I.hok.kept F,?_⟩
 . rcases (g b hb).2.2.2.1 with z|z
   . exact I.ok.noex b o e z
   . exact absurd (AK (Ar e) (Aw I.ok.bsz z)) (Bz _)
 . rcases Ah.mp (I.stkSub b z) with q|q
   . exact (g b hb).2.1 q
   . exact (g b hb).2.2.1 q
 . cases i with
   | zero =>
    have d:(some none:Option (Option V))=some (some v):=T;cases d
   | succ i =>
    have d:(j6 σ A)[i]?=some (some v):=by simpa using T
    unfold j6 at d;rw[Am] at d;cases q:A[i]? with
    | none=>rw[q] at d;cases d
    | some j =>
     rw[q] at d;have f:(σ[j]?).getD none=some v:=by simpa using d
     have e4:σ[j]?=some (some v):=by
      cases q2:σ[j]? with
      | none=>rw[q2] at f;cases f
      | some w=>rw[q2] at f;simpa using f
     obtain⟨L,J,hc,hr⟩:=Q j (AE q);have Z:L=y:=by
      have C:N[i+1]?=some y:=e1;rw[U,Ex,Am,q] at C;have:=Au C;simpa [J] using this
     subst Z;obtain⟨m0,aa,R⟩:=I.loc;obtain⟨u,r,l⟩:=R j L v J e4 (.inr (.inl hc));refine⟨u,r,.inr ⟨.inl hr,?_⟩⟩;rcases l with⟨k,_⟩|⟨_,c,ec,ic⟩
     . rw[hc] at k;cases k
     . obtain⟨c',D⟩:=h L (.inl hr);have:=a L c' D;rw[ec] at this;cases this;obtain⟨o,O,hd⟩:=ic;exact⟨c,D,o,F c o O,hd⟩
 . obtain⟨v,o,O,hd⟩:=I.cell y c (a y c e);exact⟨v,o,F c o O,hd⟩
 . show (none::j6 σ A).length=N.length;rw[U];simp[j6]
theorem a0m{x:Str}(N:List Str)(hc:X.calm=true)(hi:PI X (.Name x px) G wi)(ay:∀s H C ex,PTs (blk X N s H g cl C ex) ao tc)(he:∀s H C ex,PE (blk X N s H g cl C ex) ac te)(F:g.kind=.function)(hN:N=x::ix.map fun j=>(X.N[j]?).getD "")(hnd:N.Nodup)(O:g.names.lookup x=some .local)(au:closureFor g X.env=pure cl)(Z:∀y∈g.names,y.2≠.cell)(S:∀y∈g.names,y.2=.local->g.names.lookup y.1=some .local)(ak:∀y c,cl.lookup y=some c->X.env.cells.lookup y=some c)(an:∀y,((KS g X.env).names.lookup y=some .cell\/(KS g X.env).names.lookup y=some .free)->∃c,cl.lookup y=some c)(av:∀j∈ix,∃y,X.N[j]?=some y/\X.env.kindOf y=some .cell/\(KS g X.env).names.lookup y=some .cell)(hs:∀x,KM G X.env x=pure x)(I:Inv X l σ H s)(h:uo ix wi tc te σ H Q)(ai:∀(D C:KA) (P:KG) (M:Hp) (mm:Str->Option KB),Inv X l σ M P->P.heap.Ns C mm->M C=none->C≠X.env.locals->(∀z c,X.env.cells.lookup z=some c->c≠C)->X.s₀.heap.objs.size<=C->(∀p∈X.pn++l,p.1≠C)->Q (.ref D) M->compPost (KE X.prog X.w) X.A X.xe use RP (.ref D) C (.ok .next) P):
 KC (KE X.prog X.w) X.A (comprehension (.ListComp ac [⟨.Name x px,G,ao,0⟩] g pos) g X.env p0 (newList []) false (eval G X.env) use) RP X.xe s:=by
 refine Gj (use:=use) rfl hs au F S (thn (hi l s σ H _ I h) fun v s1 h1=>thn h1 fun aN f h2=>?_);obtain⟨it,E,tn,J,R,e,I2,T,al,f2,q2⟩:=h2;subst e;have aK:R f.heap.objs.size=none:=I2.hok.fresh (Aj _);obtain⟨W,⟨m0,w0⟩,turn⟩:=q2 f.heap.objs.size aK;refine AX ?_;have I3:Inv X l σ (upd R f.heap.objs.size (.lst [])) {f with heap:=f.heap.push {cls:=.type "list",dict:=none,data:=.seq ([]:List KB).toArray}}:=by
  exact I2.lnew (its:=[]) (ys:=[]) (t':=f.toks) .nil (AH _)
 have ap:∀b∈E,b<f.heap.objs.size:=fun b hb=>by
  obtain⟨o,ho,_⟩:=T.obj _ _ al b hb;exact Ar ho
 have f3:∀b∈E,FpOk X l (upd R f.heap.objs.size (.lst [])) b:=fun b hb=>⟨by rw[f6 (AC (ap b hb))];exact (f2 b hb).1,(f2 b hb).2⟩
 generalize hs3:({f with heap:=f.heap.push {cls:=.type "list",dict:=none,data:=.seq ([]:List KB).toArray}}:KG)=a at I3;have ar:f.heap.objs.size<=a.heap.objs.size:=by rw[<- hs3];show _<=(f.heap.push _).objs.size;rw[Br];exact Bs _
 have aw:tn 0 a.heap:=T.keep _ _ _ al fun b _ o e=>by rw[<- hs3];exact Ac _ e
 have am:∀b∈E,b<a.heap.objs.size:=fun b hb=>AK (ap b hb) ar;refine Ik Z (by intro y hy;simp at hy) (fun h4 aj af=>?_) F;have old:∀b o,a.heap.get? b=some o->h4.get? b=some o:=fun b o e=>af.extBut b o (AC (Ar e)) (Ac _ e);have I4:=acu (m:=_) (tk:=a.toks+([]:List (Str×KB)).length) (N:=N) I3 F hN ak an av f3 am aj old;have ah:tn 0 h4:=T.keep _ _ _ aw fun b _ o e=>old b o e;have Y:∀{H':Hp},(∀b∈E,H' b=none)->∀b∈E,FpOk (blk X N a (upd R f.heap.objs.size (.lst [])) g cl a.heap.objs.size E) [] H' b:=fun {H'} hn b hb =>
  ⟨hn b hb,AC (am b hb),I4.ok.exfs b hb,.inl hb,fun y c e=>(I4.ok.exf b hb).2 y c e,fun p hp=>absurd (show p∈([]:List (KA×Obj)) from hp) (by simp)⟩
 have loop:Km (KE X.prog X.w) X.A (.compLoop (.ListComp ac [⟨.Name x px,G,ao,0⟩] g pos) 0 (.ref it) (.ref f.heap.objs.size) (compEnvC g cl a.heap.objs.size X.env))
  (compPost (KE X.prog X.w) X.A X.xe use RP (.ref f.heap.objs.size) a.heap.objs.size) {a with heap:=h4,toks:=a.toks+([]:List (Str×KB)).length}:=by
  refine xv (fun n s'=>∃i v0 H',Inv (blk X N a (upd R f.heap.objs.size (.lst [])) g cl a.heap.objs.size E) [] (v0::j6 σ ix) H' s'/\tn i s'.heap/\(∀b∈E,H' b=none)/\W i n H') ?_ m0
   ⟨0,none,_,I4,ah,fun b hb=>(f3 b hb).1,w0⟩
  rintro n s5 ⟨i,v0,M,I5,ag,aq,w5⟩;rcases turn i n M w5 with⟨stop,qn⟩|⟨go,step⟩
  . refine thn (T.done (blk X N a (upd R f.heap.objs.size (.lst [])) g cl a.heap.objs.size E) rfl rfl rfl hc i [] s5 _ M _ I5 (Y aq) ag stop) fun r P ⟨hr,U⟩=>?_;subst hr;obtain⟨mm,hm,_⟩:=U.loc;have I7:Inv X l σ M P:=by
     have hC:M a.heap.objs.size=none:=U.free;have aM:a.heap.get? a.heap.objs.size=none:=EZ (Aj _);have up:∀b o,b≠a.heap.objs.size->P.heap.get? b=some o->P.heap.get? b=some o:=fun b o hb e=>e;have ab:∀b o,a.heap.get? b=some o->b≠a.heap.objs.size:=fun b o e=>AC (Ar e);have u:=U.base;refine I3.call' (s':=P) (ch:=E) U.os ⟨fun b o e n hb O=>?_,fun b o e n hb O=>?_,fun b o e n O=>u.free b o e n O,fun b o e O=>?_,u.tups,u.frzs,u.tbls⟩ (fun b o e=>?_) U.bare fun b hb=>⟨(f3 b hb).2.2.2.1,(f3 b hb).2.1,(f3 b hb).2.2.2.2.1,(f3 b hb).2.2.2.2.2⟩
     . exact up b o (ab b o e) (u.keep b o e n hb O)
     . obtain⟨sl,e1⟩:=u.slot b o e n hb O;exact⟨sl,up b _ (ab b o e) e1⟩
     . obtain⟨o',e1⟩:=u.there b o e O;exact⟨o',up b _ (ab b o e) e1⟩
     . refine (U.hok b o e).stay (fun c v aA q=>up c v ?_ q) (fun _ q=>q) fun _ _ q=>q;rintro rfl;rcases aA with z|z
       . rw[<- z,hC] at e;cases e
       . rw[hC] at z;cases z
    have aF:M a.heap.objs.size=none:=U.free;have aJ:a.heap.objs.size≠X.env.locals:=BV I3.lt;have aB:∀z c,X.env.cells.lookup z=some c->c≠a.heap.objs.size:=fun z c e e2=>by
     obtain⟨v',q⟩:=I3.cell z c e;exact absurd (e2 ▸ q.lt) (Bz _)
    exact ai _ _ P M mm I7 hm aF aJ aB I3.sz (fun p hp e2=>absurd (e2 ▸ Ar (I3.pin p hp).1) (Bz _)) qn
  . refine thn (T.item (blk X N a (upd R f.heap.objs.size (.lst [])) g cl a.heap.objs.size E) rfl rfl rfl hc i [] s5 _ M _ I5 (Y aq) ag go) fun r P ⟨u,hr,h6⟩=>?_;subst hr;refine thn h6 fun _ s7 ⟨y,H7,I7,r7,y7,aa,aD⟩=>?_;have aC:=I7.pinned (Y aD) (T.obj _ _ aa);refine FU (yj (i:=0) aC hnd (by show N[0]?=some x;rw[hN];rfl) (.inl (Cv O)) r7 (fun s8 I8=>?_) (.inr (Cv O)));have aG:Inv (blk X N a (upd R f.heap.objs.size (.lst [])) g cl a.heap.objs.size E) ([]++qb E s7.heap) (some y::j6 σ ix) H7 s8:=I8;refine thn (ay _ _ _ _ _ s8 _ H7 _ aG (step y H7 y7)) fun ok s9 ⟨H9,I9,q9⟩=>?_;have L:∀{H':Hp} {s':KG} {m':Nat},Inv (blk X N a (upd R f.heap.objs.size (.lst [])) g cl a.heap.objs.size E) ([]++qb E s7.heap) (some y::j6 σ ix) H' s'->m'<n->W (i+1) m' H'->
     ∃m,m<n/\∃i v0 H',Inv (blk X N a (upd R f.heap.objs.size (.lst [])) g cl a.heap.objs.size E) [] (v0::j6 σ ix) H' s'/\tn i s'.heap/\(∀b∈E,H' b=none)/\W i m H':=fun {H' s' m'} Ia hm wa=>by
     refine⟨m',hm,i+1,some y,H',Ia.unpinned,T.keep _ _ _ aa fun b hb o e=>(Ia.pin (b,o) (AG _ (AG _ (mo hb e)))).1,fun b hb=>?_,wa⟩;obtain⟨o,e,d⟩:=T.obj _ _ aa b hb;exact (Ia.pin (b,o) (AG _ (AG _ (mo hb e)))).2.1
    cases ok with
    | false =>
     rw[if_neg Ak] at q9 |-;obtain⟨m',hm,wa⟩:=q9;exact L I9 hm wa
    | true =>
     rw[if_pos rfl] at q9 |-;refine thn (he _ _ _ _ _ s9 _ H9 _ I9 q9) fun aL aI ⟨z,ae,aH,az,ys,hD,hl,m',hm,wa⟩=>?_;exact thn (jo _ aI _ ae (.ref f.heap.objs.size) [z] (.ref f.heap.objs.size) [aL] (fun _ H'=>H'=upd ae f.heap.objs.size (.lst (ys++[z]))) aH rfl (.cons az .nil) ⟨_,ys,z,rfl,rfl,hD,hl,rfl⟩)
      fun _ aP ⟨_,aO,aE,_,ax⟩=>L aE hm (by rw[ax];exact wa)
 subst hs3;exact Hv loop (T.self _ 0 _ _ _ ah loop)
theorem a3l{x:Str}(N:List Str)(hc:X.calm=true)(hi:PI X (.Name x px) f T)(E:∀s H C ex,PTs (blk X N s H a cl C ex) q Y)(J:∀s H C ex,PE (blk X N s H a cl C ex) p U)(i:a.kind=.function)(M:N=x::F.map fun j=>(X.N[j]?).getD "")(hnd:N.Nodup)(R:a.names.lookup x=some .local)(r:closureFor a X.env=pure cl)(g:∀y∈a.names,y.2≠.cell)(d:∀y∈a.names,y.2=.local->a.names.lookup y.1=some .local)(l:∀y c,cl.lookup y=some c->X.env.cells.lookup y=some c)(m:∀y,((KS a X.env).names.lookup y=some .cell\/(KS a X.env).names.lookup y=some .free)->∃c,cl.lookup y=some c)(v:∀j∈F,∃y,X.N[j]?=some y/\X.env.kindOf y=some .cell/\(KS a X.env).names.lookup y=some .cell)(hs:autoParam (∀x,KM f X.env x=pure x) a2_):
 PE X (.ListComp p [⟨.Name x px,f,q,0⟩] a pos) (uo F T Y U):=by
 intro G s σ H Q I h;rw[eval_ListComp];exact a0m N hc hi E J i M hnd R r g d l m v hs I h fun D C S O W P hm z u w hsz n L =>
  ⟨W,hm,fun Z A=>⟨.ref D,O,P.turned (t':=S.toks) (it:=C) (fun b o hb e=>A.extBut b o hb e) z u (.inr hsz) w n,rfl,L⟩⟩
noncomputable def Its(x:Str):It:=⟨fun i _=>i<x.cps.size,fun i H v H'=>H'=H/\∃c,x.cps[i]?=some c/\v=.str ⟨#[c]⟩,fun i _=>x.cps.size<=i⟩
theorem aat{K:Ab}{x:Str}{t:Tok}(it:KA)(T:String)(y:T="str_ascii_iterator" \/ T="str_iterator"):Turn P w K L (Its x) [it] it (fun i h=>h.IsStrIter it T x t i/\i<=x.cps.size) where
 mem:=by simp
 obj:=fun i h st b hb=>by
  have e:b=it:=by simpa using hb
  subst e;obtain⟨⟨o,e,c,d⟩,_⟩:=st;exact⟨o,e,fun v z=>by rw[d] at z;cases z⟩
 keep:=fun i h h' st k=>⟨let ⟨o,ho,r⟩:=st.1;⟨o,k it (by simp) o ho,r⟩,st.2⟩
 item:=by
  intro X G hw hK hc i a s σ H E I l st C;subst G hw hK;obtain⟨q,f1,f2,m,n,p⟩:=l it (by simp);have hi:i<x.cps.size:=C;have fin:∀h',h'.IsStrIter it T x t (i+1)->(∀b o,b≠it->s.heap.get? b=some o->h'.get? b=some o)->∀u:Tok,∃F,some (Value.str ⟨#[x.cps[i]]⟩ u)=some F/\
   KC (KE X.prog X.w) X.A (letOwnedTupleGo L (.ref it) F) (fun _ J=>∃v H',Inv X a σ H' J/\RelV v F/\(Its x).yld i H v H'/\(J.heap.IsStrIter it T x t (i+1)/\i+1<=x.cps.size)/\∀b∈[it],H' b=none) E {s with heap:=h',toks:=s.toks+1}:=fun h' j kk u=>by
   have M:Inv X a σ H {s with heap:=h',toks:=s.toks+1}:=I.turned (fun b o hb e=>kk b o hb e) q f1 m n p;obtain⟨o,e,c,d⟩:=id j;refine⟨_,rfl,yt (s:={s with heap:=h',toks:=s.toks+1}) e c d (by rcases y with rfl|rfl<;>decide) ⟨.str ⟨#[x.cps[i]]⟩,H,M,⟨u,rfl⟩,⟨rfl,_,by simp[hi],rfl⟩,⟨j,hi⟩,fun b hb=>?_⟩⟩;exact (l b hb).1
  rcases y with rfl|rfl
  . exact wpAny_pyNext_ascii_item st.1 (c:=x.cps[i]) (by simp[hi]) fun h' f g=>fin h' f (fun b o hb e=>g.extBut b o hb e) _
  . exact wpAny_pyNext_wide_item st.1 (c:=x.cps[i]) (by simp[hi]) fun h' f g=>fin h' f (fun b o hb e=>g.extBut b o hb e) _
 done:=by
  intro X G hw hK hc i a s σ H E I l st C;subst G hw hK;obtain⟨q,f1,f2,m,n,p⟩:=l it (by simp);have hi:x.cps.size<=i:=C;rcases y with rfl|rfl
  . exact wpAny_pyNext_ascii_end (I.ok.hd hc) st.1 (by simp;omega) fun h' D=>⟨rfl,I.turned (t':=s.toks) (fun b o hb e=>D b o hb e) q f1 m n p⟩
  . exact wpAny_pyNext_wide_end (I.ok.hd hc) st.1 (by simp;omega) fun h' D=>⟨rfl,I.turned (t':=s.toks) (fun b o hb e=>D b o hb e) q f1 m n p⟩
 self:=fun _ _ _ _ _ st h=>by
  rcases y with rfl|rfl
  . exact wpAny_pyIter_striter_ascii st.1 h
  . exact wpAny_pyIter_striter_wide st.1 h
noncomputable def iStr(tl:TE):TI:=fun σ H R=>tl σ H fun x H1=>∃z,x=.str z/\R (Its z) H1
theorem ael(hl:PE X l tl):PI X g l (iStr tl):=by
 intro c s σ H R I h;refine thn (hl c s σ H _ I h) fun v a ⟨x,f,d,i,j⟩=>?_;obtain⟨z,e,q⟩:=j;subst e;obtain⟨t,rfl⟩:=i;have fin:∀(o:Obj) (T:String),(T="str_ascii_iterator" \/ T="str_iterator")->(a.heap.push o).IsStrIter a.heap.objs.size T z t 0->PIE X c σ g R (.ref a.heap.objs.size) {a with heap:=a.heap.push o}:=fun o T m hs=>by
  refine⟨a.heap.objs.size,[a.heap.objs.size],_,_,f,rfl,d.kept (t':=a.toks) fun b o e=>Ac _ e,aat (x:=z) (t:=t) _ T m,⟨hs,AH _⟩,fun b hb=>?_,q⟩;have e:b=a.heap.objs.size:=by simpa using hb
  subst e;exact d.fpOk (Aj _) (d.hok.fresh (Aj _))
 cases ha:z.cps.all (· < 128)
 . exact wpAny_pyIter_wide ha (fin _ _ (.inr rfl) ⟨_,An _ rfl,rfl,rfl⟩)
 . exact wpAny_pyIter_ascii ha (fin _ _ (.inl rfl) ⟨_,An _ rfl,rfl,rfl⟩)
theorem a98(hc:X.calm=true):ku X (.builtin "all") (fun xs H Q=>∃(a:KA) (bs:List Bool),xs=[.ref a]/\SqL X.K H a (bs.map V.bl)/\Q (.bl (bs.all id)) H):=by
 intro c s σ H xs us Q I r h;obtain⟨a,bs,rfl,hq,q⟩:=h;obtain⟨u,rfl,f⟩:=r.one;cases f;obtain⟨its,m,p,hz⟩:=I.list hq;have g:a<s.heap.objs.size:=by obtain⟨o,n,e,_⟩:=p;exact Ar e
 refine call_all_walk (C5 p.isList ?_);have len:bs.length=its.length:=by have:=m.length;simpa using this
 refine⟨s.heap.objs.size,_,_,_,_,_,fun i=>(bs[i]?).getD false,rfl,JB (A:=X.A.in1) (show X.A.in1.handled=none from I.ok.hd hc) s.heap.objs.size a (AC g) its.toArray,⟨⟨_,An _ rfl,rfl,rfl⟩,p.isList.at fun o e=>Ac _ e⟩,?_,?_⟩
 . intro i v s' E F y l;have d:its[i]?=some v:=by simpa using y
   cases hb:bs[i]? with
   | none =>
    have G:=List.getElem?_eq_none_iff.mp hb;have D:=(Az.mp d).1
    lia
   | some b =>
    obtain⟨u,j,f⟩:=m.get (i:=i) (x:=V.bl b) (by rw[Am,hb]<;>rfl);rw[d] at j;cases j;cases f;simp only[hb,Gk] at l;exact BN l
 . intro h' tk w;have e:(Cb its.toArray.size).all (fun i=>(bs[i]?).getD false)=bs.all id:=by
    rw[Ao,<- len];rw[Ck];simp only[Dj,List.mem_range,id];constructor
    . intro h b hb;obtain⟨i,hi,e⟩:=List.mem_iff_getElem.mp hb;have:=h i hi;rw[Af hi,Gk,e] at this;exact this
    . intro h i hi;rw[Af hi,Gk];exact h _ (CB hi)
   have fr:FpOk X c H s.heap.objs.size:=I.fpOk (Aj _) (I.hok.fresh (Aj _));refine⟨.bl (bs.all id),H,?_,by rw[e];rfl,q⟩;have C:Inv X c σ H {s with heap:=h',toks:=tk}:=I.kept (h':=h') (t':=tk) fun b o e=>w b o (fun z=>by
    have:b=s.heap.objs.size:=by simpa using z
    exact absurd (Ar e) (by rw[this];exact Bz _)) (Ac _ e)
   exact C
theorem a5t(t:SetTable)(es:Array (Int×KB))(h:Int)(x:KB):(layNew t es h x).2.1.led=t.led:=by
 unfold layNew;split
 . dsimp only;unfold SetTable.orStandIn;split<;>rfl
 . rfl
theorem vd{t:SetTable}(h:t.relaid hs n=some (t',o)):t'.led=t.led/\t'.plain=t.plain:=by
 unfold SetTable.relaid SetTable.laid at h;cases e:SetTable.layClean (SetTable.sizeAbove n-1) hs with
 | none=>rw[e] at h;cases h
 | some ow =>
  rw[e] at h;have h':=Au h;cases h';exact⟨rfl,rfl⟩
theorem a2x(t:SetTable)(es:Array (Int×KB))(n:Nat):(relayAll t es n).2.1.led=t.led:=by
 unfold relayAll;split
 . rename_i t' o e;dsimp only;split
   . exact (vd e).1
   . rfl
 . rfl
theorem a06(t:SetTable)(es:Array (Int×KB))(n:Nat)(hp:(relayAll t es n).2.1.plain=true):t.plain=true:=by
 unfold relayAll at hp;split at hp
 . rename_i t' o e;dsimp only at hp;split at hp
   . rw[<- (vd e).2];exact hp
   . cases hp
 . cases hp
noncomputable def mw:KB->Str
 | .str x _=>x
 | _=>⟨#[]⟩
noncomputable def SSet(P:KZ)(w:KY)(h:KU)(a:KA)(ss:List Str):Prop :=
 ∃o es ep t,h.get? a=some o/\o.ExactSet/\o.data=.set es ep t/\ElemsOf (Kp P w) es.toList/\es.toList.map (fun e=>mw e.2)=ss/\ss.Nodup/\es.size<scanBound/\t.fits es.size=true/\
  t.led = !w.params.followText "set-order" /\ (1<=es.size->t.plain=false)
theorem a8m{x:Str}(h:(Kp P w).is x v=true):∃u,v=.str x u:=Iy h
theorem a0s(h:ElemsOf (Kp P w) l)(a:e∈l):∃u,e.2=.str (mw e.2) u:=by
 obtain⟨⟨k,c,_⟩,_⟩:=h e a;obtain⟨u,b⟩:=a8m c;exact⟨u,by rw[b];rfl⟩
theorem aav(h:ElemsOf (Kp P w) l)(x:Str):(l.findIdx? (fun e=>(Kp P w).is x e.2)).isSome=decide (x∈l.map fun e=>mw e.2):=by
 rw[Ck,List.findIdx?_isSome,Gm,decide_eq_true_eq,AA];constructor
 . rintro⟨e,a,c⟩;obtain⟨u,b⟩:=a8m c;exact⟨e,a,by rw[b];rfl⟩
 . rintro⟨e,a,rfl⟩;obtain⟨u,b⟩:=a0s h a;refine⟨e,a,?_⟩;rw[b];exact Gb _ _ _ _
theorem aa9{x:Str}(hS:SSet P w s.heap a n)(S:n.length+1<scanBound)(h:∀h' f b,Cn a s.heap h'->SSet P w h' a f->(if x∈n then f=n else f.Perm (n++[x]))->Q b {s with heap:=h'}):
 KC (KE P w) A (setAddHashed a (.str x u) (hashStr w x)) Q E s:=by
 obtain⟨o,es,ep,t,ho,R,hd,C,D,hnd,hb,hf,q,ak⟩:=hS;have G:(Kp P w).is x (.str x u)=true:=Gb _ _ _ _;have hn:es.size=n.length:=by rw[<- D,Ad,Bj]
 unfold setAddHashed setAddHashedIn;refine AU (Aa (DE ho hd hf ?_));dsimp only;rw[byScan_of (knd:=Kp P w) rfl hb C];simp only[↓reduceIte];unfold setAddByScan;refine Aa ?_;refine Aa (Cp ?_);refine Aa (wpAny_setScan_of (knd:=Kp P w) G ho hd hf C ?_);have p:=aav C x;rw[D] at p;cases hr:List.findIdx? (fun e=>(Kp P w).is x e.2) es.toList with
 | some j =>
  dsimp only;rw[hr] at p;have hx:x∈n:=of_decide_eq_true (Eq.symm p);refine Ae (Ae ?_);have:=h s.heap n false (Jc a s.heap) ⟨o,es,ep,t,ho,R,hd,C,D,hnd,hb,hf,q,ak⟩ (by rw[if_pos hx]);exact this
 | none =>
  dsimp only;rw[hr] at p;have hx:x∉n:=of_decide_eq_false (Eq.symm p);have ac:∀(b:Bool) {J:KG} {F:Unit->KG->Prop},F () J->KC (KE P w) A (match b with|true=>rule "set.scan.the-table-gave-way" | false=>pure ()) F E J :=
   fun b J F hq=>by cases b<;>first|exact Ae hq|exact Cp hq
  have d:=layNew_perm t es (hashStr w x) (.str x u);have l:=layNew_fits t es (hashStr w x) (.str x u);have i:=a5t t es (hashStr w x) (.str x u);show KC (KE P w) A _ _ E s;have hash:(Kp P w).hash x=hashStr w x:=rfl
  try rw[hash]
  generalize hL:layNew t es (hashStr w x) (.str x u)=L at d l i |-;obtain⟨c,t1,wasDummy,am⟩:=L;dsimp only at d l i |-;rw[Jd] at d;have M:ElemsOf (Kp P w) c.toList:=(ElemsOf.push (knd:=Kp P w) C G rfl).perm d;have v:(c.toList.map fun e=>mw e.2).Perm (n++[x]):=by
   have:=d.map (fun e:Int×KB=>mw e.2);rw[Ax,D] at this;exact this
  have ab:c.size=n.length+1:=by rw[<- Bj,d.length_eq,Ai,Bj,hn];rfl
  have U:c.size<scanBound:=by rw[ab];exact S
  have H:(c.toList.map fun e=>mw e.2).Nodup:=by
   refine v.nodup_iff.mpr ?_;rw[List.nodup_append];exact⟨hnd,by simp,fun y hy z hz e=>by rw[Ap.mp hz] at e;exact hx (e ▸ hy)⟩
  refine Aa (ac _ ?_);have tail:∀t2:SetTable,t2.fits c.size=true->t2.led=t.led->t2.plain=false->∀(g:Bool->Sem Unit),(∀(b:Bool) (J:KG) (F:Unit->KG->Prop),F () J->KC (KE P w) A (g b) F E J)->
   KC (KE P w) A (do
    storeSet a c t2
    if (!wasDummy && t2.tooFull)=true then do
        g (relayAll t2 c (CC c.size)).2.2
        storeSet a (relayAll t2 c (CC c.size)).1 (relayAll t2 c (CC c.size)).2.1
        pure (some true)
     else pure (some true)) (fun r s'=>r=some true/\∃h' f,s'={s with heap:=h'}/\Cn a s.heap h'/\SSet P w h' a f/\f.Perm (n++[x])) E s:=by
   intro t2 ag Z Y g hg;refine Aa (Je ho hd ?_ (FV U));have W:(s.heap.update a (Fe c t2)).get? a=some {o with data:=.set c (ep+1) t2}:=by
    have:=B9 (Fe c t2) ho (by rw[IU c t2 hd];rfl);rw[IU c t2 hd] at this;exact this
   have I:=CA s.heap a (Fe c t2);split
   . have hp:=relayAll_perm t2 c (CC c.size);have O:=relayAll_fits t2 c (CC c.size);have T:=a2x t2 c (CC c.size);have hpr:=a06 t2 c (CC c.size);generalize hRl:relayAll t2 c (CC c.size)=Rl at hp O T hpr |-;obtain⟨m,X,af⟩:=Rl;dsimp only at hp O T hpr |-;have hsz:m.size=c.size:=by rw[<- Bj,hp.length_eq,Bj]
     have aa:m.size<scanBound:=by rw[hsz];exact U
     refine Aa (hg _ _ _ ?_);refine Aa (Je W rfl ?_ (FV aa));have aj:((s.heap.update a (Fe c t2)).update a (Fe m X)).get? a=some {o with data:=.set m (ep+1+1) X}:=by
      have:=B9 (Fe m X) W (by rw[IU m X rfl];rfl);rw[IU (o:={o with data:=.set c (ep+1) t2}) m X rfl] at this;exact this
     have N:=hp.map (fun e:Int×KB=>mw e.2);refine Ae ⟨rfl,_,m.toList.map (fun e=>mw e.2),rfl,I.trans (CA _ a _),⟨_,m,ep+1+1,X,aj,R,rfl,M.perm hp,rfl,N.nodup_iff.mpr H,aa,O,T.trans (Z.trans q),fun _=>?_⟩,N.trans v⟩;cases hq:X.plain with
     | false=>rfl
     | true=>rw[hpr hq] at Y;cases Y
   . exact Ae ⟨rfl,_,c.toList.map (fun e=>mw e.2),rfl,I,⟨_,c,ep+1,t2,W,R,rfl,M,rfl,H,U,ag,Z.trans q,fun _=>Y⟩,v⟩
  have fin:∀s':KG,(∃h' f,s'={s with heap:=h'}/\Cn a s.heap h'/\SSet P w h' a f/\f.Perm (n++[x]))->Q true s':=by
   rintro s' ⟨h',f,rfl,ae,ah,al⟩;exact h h' f true ae ah (by rw[if_neg hx];exact al)
  split
  . refine Aa ?_;rw[hashByValue_scannable 8 (x:=.str x u) rfl];refine Ae ?_;dsimp only[plainKind];simp only[B0,if_false];refine BM (tail {t1 with plain:=false} (SetTable.fits_plain_off l) i rfl _ ?_) (fun r s' hq=>?_) fun _ _ e=>e
    . intro b J F hq;cases b<;>first|exact Ae hq|exact Cp hq
    . obtain⟨rfl,hq⟩:=hq;exact Ae (fin s' hq)
  . rename_i ai;refine Aa (Ae ?_);simp only[↓reduceIte];refine BM (tail t1 l i (by simpa using ai) _ ?_) (fun r s' hq=>?_) fun _ _ e=>e
    . intro b J F hq;cases b<;>first|exact Ae hq|exact Cp hq
    . obtain⟨rfl,hq⟩:=hq;exact Ae (fin s' hq)
inductive Dd:List Str->List Str->Prop
 | nil:Dd [] []
 | old{xs ss:List Str}{x:Str}:Dd xs ss->x∈ss->Dd (xs++[x]) ss
 | new{xs ss ss':List Str}{x:Str}:Dd xs ss->x∉ss->ss'.Perm (ss++[x])->Dd (xs++[x]) ss'
theorem Dd.mem(h:Dd xs a):∀y,y∈a↔y∈xs:=by
 induction h with
 | nil=>intro y;exact EU
 | old d hx ih =>
  rename_i zs a x;intro y;rw[ih y,Aq,Ap];constructor
  . exact .inl
  . rintro (q|rfl)
    . exact q
    . exact (ih y).mp hx
 | new d hx hp ih =>
  rename_i zs a b x;intro y;rw[hp.mem_iff,Aq,Aq,ih y]
theorem Dd.nodup(h:Dd xs a):a.Nodup:=by
 induction h with
 | nil=>exact Ft
 | old d hx ih=>exact ih
 | new d hx hp ih =>
  rename_i zs a c x;refine hp.nodup_iff.mpr (ED.mpr ⟨ih,by simp,fun y b z hz e=>?_⟩);rw[Ap.mp hz] at e;exact hx (e ▸ b)
theorem Dd.len(h:Dd xs a):a.length<=xs.length:=by
 induction h with
 | nil=>exact Aj _
 | old d hx ih=>rw[Ai];exact Aw ih (BE _ _)
 | new d hx hp ih=>rw[hp.length_eq,Ai,Ai];exact Il ih _
theorem a4c:∀{vs:List KB}{xs:List Str},StrsAre vs xs->∀(i:Nat) (v:KB),vs[i]?=some v->∃x t,xs[i]?=some x/\v=.str x t
 | _,_,.nil,i,v,h=>by simp at h
 | _,_,.cons x t r,0,v,h=>by simp at h;exact⟨x,t,rfl,h.symm⟩
 | _,_,.cons x t r,i+1,v,h=>by
  obtain⟨y,u,b,a⟩:=a4c r i v (by simpa using h);exact⟨y,u,by simpa using b,a⟩
theorem SSet.at(d:SSet P w h a c)(k:∀o,h.get? a=some o->h'.get? a=some o):SSet P w h' a c:=by
 obtain⟨o,es,ep,b,e,rest⟩:=d;exact⟨o,es,ep,b,k o e,rest⟩
theorem yp{St:Nat->KG->Prop}(W:WalksS P w A.in1 I X D G n Q St)(S:KA)(q:S∉X)(xs:List Str)(hn:xs.length=n)(z:∀i v,Q i v->∃x t,xs[i]?=some x/\v=.str x t)(hb:n+1<scanBound):
 ∀(k i:Nat) (s:KG) (f:List Str),n-i=k->i<=n->St i s->SSet P w s.heap S f->Dd (xs.take i) f->
   (∀s' a,Moved (S::D) G s s'->SSet P w s'.heap S a->Dd xs a->R (.ok (.ret .none)) s')->
   Km (KE P w) A (.builtin "set.update.loop" ⟨[.ref S,.ref I],[]⟩) R s:=by
 have y:S∉D:=fun h=>q (W.sub _ h);have d:∀b∈D,b∈S::D:=fun b hb=>Al _ hb;intro k;induction k with
 | zero =>
  intro i s f T hi g E hd H;have M:i=n:=by lia
  subst M;refine Bw Ej ?_;rw[AY CK _];show KC _ A.in1 (Kh (.ref I)>>=_) _ _ s;refine Aa (W.done s _ _ g fun s' hm=>?_);show KC _ A.in1 (ret Value.none) _ _ s';refine Ae (H s' f (hm.mono d) (E.at fun o e=>hm.heap S _ y e) ?_);rw[Bi (IL hn)] at hd;exact hd
 | succ k ih =>
  intro i s f T hi g E hd H;have u:i<n:=by lia
  refine Bw Ej ?_;rw[AY CK _];show KC _ A.in1 (Kh (.ref I)>>=_) _ _ s;refine Aa (W.item i s _ _ u g fun v s' Y m hm=>?_);obtain⟨x,t,U,rfl⟩:=z i v Y;have L:SSet P w s'.heap S f:=E.at fun o e=>hm.heap S _ y e;show KC _ A.in1 (holding [Value.str x t] (setAdd S (.str x t))>>=_) _ _ s';refine Aa (AU ?_);unfold setAdd;refine AU ?_;refine Aa ((Kp P w).pyHash (k:=x) (Gb _ _ _ _) ?_);have hl:f.length<=i:=by have:=hd.len;rw[AQ] at this;lia
  refine aa9 (s:={s' with toks:=s'.toks+1}) L (by lia) fun h' a b l O c=>?_;have J:Dd (xs.take (i+1)) a:=by
   have e:xs.take (i+1)=xs.take i++[x]:=by rw[BY,U];rfl
   rw[e];by_cases hm:x∈f
   . rw[if_pos hm] at c;rw[c];exact .old hd hm
   . rw[if_neg hm] at c;exact .new hd hm c
  refine Ae ⟨BC CK _,ih (i+1) _ a (by lia) u (W.frame _ s' _ _ m (Bs _) fun b hb o e=>?_) O J fun N r p C j=>?_⟩
  . rw[l.2 b (fun h:b=S=>q (by rw[<- h];exact hb))];exact e
  . refine H N r (Moved.trans W.gtrans ((hm.mono d).then_heap (Bs _) fun b o hb e=>?_) p) C j;rw[l.2 b (fun h:b=S=>hb (by rw[h];exact Ag))];exact e
theorem yo(a:KB)(h:Q₁ (.ref s.heap.objs.size) {s with heap:=s.heap.push {cls:=.type "set",dict:=none,data:=.set #[] 0 (.fresh 0 0 (!w.params.followText "set-order"))}}):
 Km (KE P w) A (.call (.builtin "set.__new__") ⟨[.type "set",a],[]⟩) (wants Q₁ E) s:=by
 refine codeAny_of_tree ?_;show KC _ A.in1 (do checkBuiltinCall "set.__new__" ⟨[.type "set",a],[]⟩;again (.builtin "set.__new__" ⟨[.type "set",a],[]⟩)) _ _ s;refine Aa (EJ (PySem.F.newCall_set_1 a) (Ae ⟨BC HQ _,Bw PySem.F.entry_set_new ?_⟩));rw[AY HQ _];unfold Builtin.«set.__new__» Builtin.Frozenset.newClass;have b:=sub_set_self;obtain⟨hp,g,d,tk,os⟩:=s;dsimp only
 wp_walk
 refine Gn (Ae ?_);dsimp only;simp only[newObj];refine Aa (wpAny_alloc (Ae ?_));exact Ae h
set_option maxHeartbeats 16000000 in
theorem a0z(hh:A.handled=none)(hl:s.heap.IsList l items)(hi:StrsAre items.toList xs)(hb:items.size+1<scanBound)(h:∀(h':KU) (tk:Nat) (m:List Str),SSet P w h' s.heap.objs.size m->Dd xs m->(∀b o,b<s.heap.objs.size->s.heap.get? b=some o->h'.get? b=some o)->Q (.ref s.heap.objs.size) {s with heap:=h',toks:=tk}):
 KC (KE P w) A (call (.type "set") [.ref l]) Q E s:=by
 obtain⟨c,tl,ae⟩:=PySem.F.called_set.mro;have X:=PySem.F.called_set.made;have Y:=PySem.F.called_set.sub;refine Ig (codeAny_of_tree ?_);show KC _ _ (callAny (.type "set") _) _ _ _;refine Ae ⟨Code.quiet_builtin _ (by decide),Bw PySem.F.entry_type_call ?_⟩;rw[Around.under_plain (weight_type_call_type "set" [.ref l] []) rfl];have h1:=PySem.F.called_set.notType;have h2:=PySem.F.called_set.canCreate;have ag:=PySem.F.typeCall_set_1 (.ref l)
 repeat (any_goals (first|assumption|wp_step))
 refine DK (yo (.ref l) (E:=E) (Q₁:=fun obj s₁=>obj=.ref s.heap.objs.size/\s₁={s with heap:=s.heap.push {cls:=.type "set",dict:=none,data:=.set #[] 0 (.fresh 0 0 (!w.params.followText "set-order"))}}) ⟨rfl,rfl⟩) fun r s₁ hr=>?_;cases r with
 | error e=>exact hr
 | ok fl =>
  cases fl with
  | ret obj =>
   obtain⟨rfl,rfl⟩:=hr;generalize hled:(!w.params.followText "set-order")=led;have hS:(s.heap.push {cls:=.type "set",dict:=none,data:=.set #[] 0 (.fresh 0 0 led)}).get? s.heap.objs.size=some {cls:=.type "set",dict:=none,data:=.set #[] 0 (.fresh 0 0 led)}:=An _ rfl;have hT:EN {s with heap:=s.heap.push {cls:=.type "set",dict:=none,data:=.set #[] 0 (.fresh 0 0 led)}} (.ref s.heap.objs.size) "set" := ⟨_,hS,rfl⟩
   have ai:=PySem.F.called_set.init.lookup;have af:=PySem.F.called_set.init.bind (.ref s.heap.objs.size)
   repeat (any_goals (first|assumption|wp_step))
   refine DK (DS (R:=wants (fun r Z=>r=.none/\∃h' tk m,Z={s with heap:=h',toks:=tk}/\SSet P w h' s.heap.objs.size m/\Dd xs m/\
    (∀b o,b<s.heap.objs.size->s.heap.get? b=some o->h'.get? b=some o)) E) PySem.F.called_set.init.plain PySem.F.entry_set_init (check_set_init_1 hT ?_)) fun r₂ Z f=>?_
   . obtain⟨ol,u,n,nl,y⟩:=hl;obtain⟨aa,d,N,a⟩:=ol;simp only at n y;subst n;subst y;have z:(s.heap.push {cls:=.type "set",dict:=none,data:=.set #[] 0 (.fresh 0 0 led)}).get? l=some {cls:=.type "list",dict:=d,data:=.seq items nl,slots:=a}:=Ac _ u;have ac:=PySem.F.sub_list_set;have ab:=PySem.F.sub_list_frozenset;have ah:(Value.type "list"==Value.type "dict")=false:=by decide
     have C:(s.heap.push {cls:=.type "set",dict:=none,data:=.set #[] 0 (.fresh 0 0 led)}).IsList l items:=⟨_,z,rfl,nl,rfl⟩
     unfold Builtin.«set.__init__» noKeywords Builtin.Frozenset.updateFrom;generalize hPI:pyIter=PI
     wp_walk
     subst hPI;refine C5 C ?_;refine Aa (wpAny_runValue ?_);have p:l<s.heap.objs.size:=Ar u;have W:A.in1.in1.in1.handled=none:=by simp[hh]
     have H:l≠(s.heap.push {cls:=.type "set",dict:=none,data:=.set #[] 0 (.fresh 0 0 led)}).objs.size:=by
      rw[Br];exact AC (C6 p)
     have L:s.heap.objs.size∉[(s.heap.push {cls:=.type "set",dict:=none,data:=.set #[] 0 (.fresh 0 0 led)}).objs.size,l]:=by
      rw[Br];simp only[Ah,Ap,Av,or_false,not_or];exact⟨AC (Ce _),BV p⟩
     have G:xs.length=items.size:=by have:=hi.length;simpa using this.symm
     have D:∀(i:Nat) (v:KB),items[i]?=some v->∃x t,xs[i]?=some x/\v=.str x t:=fun i v hv=>a4c hi i v (by rw[BO];exact hv);refine yp ((JB W _ l H items).toS) s.heap.objs.size L xs G D hb (items.size-0) 0 _ [] (by lia) (AH _)
      ⟨⟨_,An _ rfl,rfl,rfl⟩,(C.push _)⟩ ?hS0 (by rw[Da];exact .nil) ?hR
     case hS0 =>
      have I:((s.heap.push {cls:=.type "set",dict:=none,data:=.set #[] 0 (.fresh 0 0 led)}).push {cls:=.type "list_iterator",data:=.fields #[.ref l,.int 0 0]}).get? s.heap.objs.size
       =some {cls:=.type "set",dict:=none,data:=.set #[] 0 (.fresh 0 0 led)}:=Ac _ hS
      exact⟨_,#[],0,_,I,⟨rfl,rfl,rfl⟩,rfl,fun e he=>by simp at he,rfl,Ft,by decide,by rfl,hled.symm,fun q=>absurd q (by simp)⟩
     case hR =>
      intro s' J hm j g;obtain⟨h',g',d',U,T⟩:=s';have eg:g'=s.gens:=hm.gens;have ed:d'=s.drawn:=hm.drawn;have eo:T=s.os:=hm.os;subst eg;subst ed;subst eo;show KC _ _ _ _ _ _;refine Ae ?_;show KC _ _ (ret Value.none) _ _ _;refine Ae ⟨rfl,h',U,J,rfl,j,g,fun b o hb e=>?_⟩;have S:b≠s.heap.objs.size:=AC hb;have M:b≠(s.heap.push {cls:=.type "set",dict:=none,data:=.set #[] 0 (.fresh 0 0 led)}).objs.size:=by
       rw[Br];exact AC (C6 hb)
      exact hm.heap b o (by simp only[Ah,Ap,Av,or_false,not_or];exact⟨S,M⟩) (Ac _ (Ac _ e))
   . cases r₂ with
     | error e=>exact f
     | ok fl₂ =>
      cases fl₂ with
      | ret r =>
       obtain⟨rfl,h',tk,m,rfl,j,g,O⟩:=f
       repeat (any_goals (first|assumption|wp_step))
       exact h _ _ m j g O
      | _=>exact f.elim
  | _=>exact hr.elim
namespace SF
theorem entry_set_iter:entryFor table "set.__iter__"=some Builtin.«frozenset.__iter__» := HR (id' := "frozenset.__iter__") (by kernel_rfl) rfl (by decide) (by kernel_rfl)
theorem slot_next:Slot "set_iterator" "__next__" "set_iterator.__next__" :=
 .of (owner := "set_iterator") (n := "__next__") (by rw[CP,Cd];kernel_rfl) (by decide) (by decide) (by decide)
  (by first|exact .inl (by decide)|exact .inr (by decide)) (by rw[Et];kernel_rfl)
theorem entry_next:entryFor table "set_iterator.__next__"=some Builtin.«set_iterator.__next__» := entryFor_of_tree (by kernel_rfl)
theorem args_next(a:KB):argsOk "set_iterator.__next__" ⟨[a],[]⟩:=by unfold argsOk;kernel_rfl
theorem slot_self:Slot "set_iterator" "__iter__" "set_iterator.__iter__" :=
 .of (owner := "set_iterator") (n := "__iter__") (by rw[CP,Cd];kernel_rfl) (by decide) (by decide) (by decide)
  (by first|exact .inl (by decide)|exact .inr (by decide)) (by rw[Et];kernel_rfl)
theorem entry_self:entryFor table "set_iterator.__iter__"=some Builtin.«dict_keyiterator.__iter__» :=
 HR (id' := "dict_keyiterator.__iter__") (by kernel_rfl) rfl (by decide) (by kernel_rfl)
theorem args_self(a:KB):argsOk "set_iterator.__iter__" ⟨[a],[]⟩:=by unfold argsOk;kernel_rfl
theorem set_len:typeLookup (.type "set") "__len__"=pure (some (.builtin "set.__len__")):=by rw[CP,Cd];kernel_rfl
theorem sub_set:isSubtype (.type "set") (.type "set")=pure true:=by rw[Et];kernel_rfl
end SF
open PyProof.Rows
theorem uq:∀(l:List α) (i:Nat) (h:i<l.length),(l[i]::l.eraseIdx i).Perm l
 | x::r,0,_=>Eu _
 | x::r,i+1,h=>by
  have h':i<r.length:=by simpa using h
  exact (List.Perm.swap x r[i] (r.eraseIdx i)).trans ((uq r i h').cons x)
theorem xq(next:Nat->Nat):∀(a k:Nat) (left:List α) (out:Array α),left.length=a->(IV next a k left out).toList.Perm (out.toList++left)
 | 0,k,left,out,h=>by
  have e:left=[]:=B8 h;subst e;simp[IV]
 | a+1,k,left,out,h=>by
  have b:next k % left.length<left.length:=Ff _ (by lia)
  unfold IV;rw[Af b];dsimp only;refine (xq next a (k+1) _ _ (by rw[FQ b];lia)).trans ?_;rw[Jd,DF];refine List.Perm.append_left _ ?_;rw[HS];exact uq _ _ b
theorem a0w(next:Nat->Nat)(xs:Array α):(pickOrder next xs).toList.Perm xs.toList:=by
 have:=xq next xs.size 0 xs.toList #[] (by simp)
 simpa [pickOrder] using this
section
theorem a57(hn:n≠0)(h:∀i d,i<n->Q i {s with drawn:=d}):KC (KE P w) A (choose src n) Q E s:=by
 intro Γ p a;unfold choose;rw[Sem.wp_choose];exact⟨hn,h _ _ (Ff _ (Nat.pos_of_ne_zero hn))⟩
variable{P:KZ}{w:KY}{A:Kq}{E:KB->KG->Prop} in
theorem ub{α:Type}:∀(n:Nat) (xs:List α) (s:KG) (Q:List α->KG->Prop),xs.length=n->(∀ys d,ys.Perm xs->Q ys {s with drawn:=d})->KC (KE P w) A (drawOrder n xs) Q E s
 | 0,xs,s,Q,hl,h=>by
  have e:xs=[]:=B8 hl;subst e;exact Ae (h [] s.drawn (Eu _))
 | n+1,[],s,Q,hl,h=>by simp at hl
 | n+1,x::r,s,Q,hl,h=>by
  unfold drawOrder;refine Aa (a57 (by rw[hl];exact Nat.succ_ne_zero n) fun i d hi=>?_);rw[Af hi];dsimp only;refine Aa (ub n _ _ _ (by rw[FQ hi];lia) fun ys d' hp=>?_);refine Ae (h _ d' ?_);exact (hp.cons _).trans (uq _ _ hi)
end
theorem a0p:∀l:List α,(Cb l.length).filterMap (fun i=>l[i]?)=l
 | []=>rfl
 | x::r=>by
  rw[AB,List.range_succ_eq_map,Dk];simp only[List.getElem?_cons_zero];rw[IR];exact congrArg (x :: ·) (a0p r)
noncomputable def a13(first:KB)(i:Nat)(S:KA)(n ep:Nat):Obj:={cls:=.type "set_iterator",dict:=none,data:=.fields #[first,.int i 0,.ref S,.int n 0,.int ep 0],slots := #[]}
inductive Ord(w:KY)(S:KA)(es:Array (Int×KB))(ep:Nat)(t:SetTable)(h:KU):KB->Nat->List KB->Prop
 | text (i:Nat):w.params.followText "set-order"=true->Ord w S es ep t h (.int 0 0) i ((pickOrder (w.params.setOrder S ep) es).toList.map (·.2))
 | drawn (i:Nat)(T:KA)(ps:List Nat):w.params.followText "set-order"=false->IsTup h T (ps.map fun (p:Nat)=>Value.int p 0).toArray->(∀p∈ps,p<es.size)->Ord w S es ep t h (.ref T) i (ps.filterMap fun p=>(es[p]?).map (·.2))
 | none (k i:Nat):w.params.followText "set-order"=false->es.size=0->Ord w S es ep t h (.int k 0) i []
 | one0 (e:Int×KB):w.params.followText "set-order"=false->es = #[e]->Ord w S es ep t h (.int 0 0) 0 [e.2]
 | one1 (e:Int×KB)(j:Nat):w.params.followText "set-order"=false->es = #[e]->t.place = #[j]->Ord w S es ep t h (.int (j+1:Nat) 0) 1 [e.2]
noncomputable def ab3(P:KZ)(w:KY)(S I T0:KA)(es:Array (Int×KB))(ep:Nat)(t:SetTable)(ord:List KB)(i:Nat)(h:KU):Prop :=
 ∃first o,h.get? I=some (a13 first i S es.size ep)/\h.get? S=some o/\o.data=.set es ep t/\Ord w S es ep t h first i ord/\∀T,first=.ref T->T=T0
theorem ae5(j:Nat):Fu #[j] (j+1)=1:=by
 simp[Fu,Jf]
theorem aea(j:Nat):Fu #[j] 0=0:=by
 simp[Fu,Jf]
theorem vp(h:Q (w.params.followText "set-order") s):KC (KE P w) A setsByText Q E s:=by
 unfold setsByText;exact Aa (Gn (Ae h))
theorem yv{k:Nat}{t:SetTable}(n:s.heap.get? S=some o)(hd:o.data=.set es ep t)(g:t.fits es.size=true)(c:t.led = !w.params.followText "set-order")(od:Ord w S es ep t s.heap (.int (k:Int) 0) i d)(h:∀m:Nat,(∀v,d[i]?=some v->Ord w S es ep t s.heap (.int (m:Int) 0) (i+1) d)->Q ((d[i]?).map fun v=>(v,m)) s):KC (KE P w) A (setNext S k i ep) Q E s:=by
 unfold setNext;refine Aa (DE n hd g ?_);dsimp only;refine Aa (vp ?_);generalize hk:(k:Int)=q at od;generalize hfst:Value.int q 0=first at od
 cases od with
 | text i ht =>
  cases hfst;obtain rfl:k=0:=by lia
  rw[ht];simp only[if_true,bne_self_eq_false,B0,if_false];unfold setWalk;refine Aa ?_;refine Aa (DE n hd g ?_);dsimp only;refine Aa (vp ?_);rw[ht];simp only[if_true];refine Aa (Gn (Ae ?_));refine Ae ?_;have:=h 0 fun v _=>Ord.text (i+1) ht;rw[Am,BO] at this;rw[Option.map_map] at this;exact this
 | drawn=>cases hfst
 | none m i ht h0 =>
  cases hfst;rw[ht];have r:es = #[]:=Fg h0;subst r;have hl:t.led=true:=by rw[c,ht];rfl
  rw[if_neg Ak];split
  . rename_i b;have a:(!t.plain && decide ((#[]:Array (Int×KB)).size>1))=true:=b;simp at a
  . refine Aa (show KC (KE P w) A (if (!t.led && !(#[]:Array (Int×KB)).isEmpty)=true then unsupported "set:maker-not-led" else pure ()) _ _ _ from ?_);rw[hl];refine Ae (Ae ?_);have:=h k fun v e=>by simp at e
    simpa using this
 | one0 e ht he =>
  cases hfst;obtain rfl:k=0:=by lia
  rw[ht];subst he;have hl:t.led=true:=by rw[c,ht];rfl
  have f:t.place.size=1:=by
   simp only[SetTable.fits,BR,beq_iff_eq] at g;exact g.1
  obtain⟨j,p⟩:∃j,t.place = #[j]:=by
   generalize t.place=pl at f;obtain⟨l⟩:=pl
   match l,f with
   | [j],_=>exact⟨j,rfl⟩
  rw[if_neg Ak];split
  . rename_i b;have a:(!t.plain && decide ((#[e]:Array (Int×KB)).size>1))=true:=b;simp at a
  . refine Aa (show KC (KE P w) A (if (!t.led && !(#[e]:Array (Int×KB)).isEmpty)=true then unsupported "set:maker-not-led" else pure ()) _ _ _ from ?_);rw[hl];refine Ae (Ae ?_);rw[p,aea];exact h (j+1) fun v _=>Ord.one1 e j ht rfl p
 | one1 e j ht he hp =>
  cases hfst;obtain rfl:k=j+1:=by lia
  rw[ht];subst he;have hl:t.led=true:=by rw[c,ht];rfl
  rw[if_neg Ak];split
  . rename_i b;have a:(!t.plain && decide ((#[e]:Array (Int×KB)).size>1))=true:=b;simp at a
  . refine Aa (show KC (KE P w) A (if (!t.led && !(#[e]:Array (Int×KB)).isEmpty)=true then unsupported "set:maker-not-led" else pure ()) _ _ _ from ?_);rw[hl];refine Ae (Ae ?_);rw[hp,ae5];exact h 0 fun v e=>by simp at e
theorem Ord.keep{t:SetTable}(od:Ord w S es ep t h first i a)(k:∀T o,first=.ref T->h.get? T=some o->h'.get? T=some o):Ord w S es ep t h' first i a:=by
 cases od with
 | text i ht=>exact .text i ht
 | drawn i T ps ht hT hp =>
  obtain⟨o,e,c⟩:=hT;exact .drawn i T ps ht ⟨o,k T o rfl e,c⟩ hp
 | none kk i ht h0=>exact .none kk i ht h0
 | one0 e ht he=>exact .one0 e ht he
 | one1 e j ht he hp=>exact .one1 e j ht he hp
theorem Ord.kind{t:SetTable}(od:Ord w S es ep t h first i a):
 (∃k:Nat,first=.int (k:Int) 0)\/∃(T:KA) (ps:List Nat),first=.ref T/\w.params.followText "set-order"=false/\IsTup h T (ps.map fun (p:Nat)=>Value.int p 0).toArray/\(∀p∈ps,p<es.size)/\a=ps.filterMap fun p=>(es[p]?).map (·.2):=by
 cases od with
 | text i ht=>exact .inl ⟨0,rfl⟩
 | drawn i T ps ht hT hp=>exact .inr ⟨T,ps,rfl,ht,hT,hp,rfl⟩
 | none k i ht h0=>exact .inl ⟨k,rfl⟩
 | one0 e ht he=>exact .inl ⟨0,rfl⟩
 | one1 e j ht he hp=>exact .inl ⟨j+1,rfl⟩
theorem Ord.step{t:SetTable}(od:Ord w S es ep t h (.ref T) i a):Ord w S es ep t h (.ref T) (i+1) a:=by
 cases od with
 | drawn i T ps ht hT hp=>exact .drawn (i+1) T ps ht hT hp
theorem a28{es:Array (Int×KB)}:∀{ps:List Nat},(∀p∈ps,p<es.size)->∀(i:Nat),(ps.filterMap fun p=>(es[p]?).map (·.2))[i]?=(ps[i]?).bind fun p=>(es[p]?).map (·.2)
 | [],_,i=>by simp
 | p::r,hp,i=>by
  have a:p<es.size:=hp p (by simp);have e:es[p]?=some es[p]:=by simp[a]
  rw[Dk,e];cases i with
  | zero=>simp[e]
  | succ i=>simpa using a28 (fun q hq=>hp q (Al _ hq)) i
theorem a67(hh:A.handled=none){t:SetTable}(fp:List KA)(hI:I∈fp)(hS:S∈fp)(N:S≠I)(Y:t.fits es.size=true)(L:t.led = !w.params.followText "set-order")(hT:T0∈fp)(ab:T0≠I):
 Walks P w A I fp [I] c.length (fun i v=>c[i]?=some v) (ab3 P w S I T0 es ep t c) where
 sub:=fun b hb=>by rw[Ap.mp hb];exact hI
 frame:=fun i h h' st Z=>by
  obtain⟨first,o,l,n,r,D,M⟩:=st;exact⟨first,o,Z I hI _ l,Z S hS _ n,r,D.keep (fun T o e q=>Z T (by rw[M T e];exact hT) o q),M⟩
 item:=fun i s Q E hi st U=>by
  obtain⟨first,o,l,n,r,D,M⟩:=st;have ty:s.TypeIs (.ref I) "set_iterator" := ⟨_,l,rfl⟩
  unfold Kh;refine Aa (CV (Bn (name:=Bf "__next__") ty SF.slot_next (Bp SF.slot_next ty SF.entry_next ?_ (SF.args_next _))));show KC _ _ (fieldsOf (.ref I)>>=_) _ _ s;refine Aa (Fv l rfl ?_);show KC _ _ (setEntries S>>=_) _ _ s;refine Aa (Fn n r Y ?_);simp only[bne_self_eq_false,B0,if_false];have J:c[i]?=some c[i]:=Af hi;rcases D.kind with⟨k,rfl⟩|⟨T,ps,rfl,ht,O,hps,u⟩
  . show KC _ _ (setNext S (Dy (k:Int)) (Dy (i:Int)) (Dy (ep:Int))>>=_) _ _ s;simp only[Bv];refine Aa (yv n r Y L D fun k' X=>?_);rw[J];show KC _ _ (setField (.ref I) 0 (Ko k')>>=_) _ _ s;refine Aa (Bq l (by simp) fun ha C j=>?_);refine Aa (Bq C (by simp) fun hb F f=>?_);refine Ae ⟨_,rfl,Ae (U _ hb s.toks J ⟨.int (k':Int) 0,o,F,?_,r,(X _ J).keep (fun T o e=>by cases e),(fun T e=>by cases e)⟩ fun b o g e=>?_)⟩
    . rw[f.2 S N,j.2 S N];exact n
    . have:b≠I:=fun z=>g (by simp[z]);rw[f.2 b this,j.2 b this];exact e
  . have W:T≠I:=by rw[M T rfl];exact ab
    have G:=a28 hps i;rw[<- u,J] at G;cases d:ps[i]? with
    | none=>rw[d] at G;cases G
    | some p =>
     rw[d] at G;have hp:p<es.size:=hps p (AE d);have H:es[p]?=some es[p]:=by simp[hp]
     have y:some c[i]=(es[p]?).map (·.2):=G;rw[H] at y;have aa:c[i]=es[p].2:=Au y;show KC _ _ (seqItems? (.ref T)>>=_) _ _ s;obtain⟨oT,eT,cT,nT,dT⟩:=O;refine Aa (Bm eT dT ?_);dsimp only;have R:((ps.map fun (p:Nat)=>Value.int p 0).toArray)[Dy (i:Int)]?=some (.int (p:Int) 0):=by
      rw[Bv,Ct,Am,d];rfl
     rw[R];show KC _ _ (setNextDrawn S (Dy (p:Int)) (Dy (ep:Int))>>=_) _ _ s;simp only[Bv];unfold setNextDrawn;refine Aa (Aa (DE n r Y ?_));simp only[bne_self_eq_false,B0,if_false];rw[H];refine Ae ?_;refine Aa (Bq l (by simp) fun hb F f=>?_);refine Ae ⟨_,rfl,Ae (U _ hb s.toks (by rw[J,aa];rfl) ⟨.ref T,o,F,?_,r,D.step.keep (fun T' o e q=>?_),M⟩ fun b o g e=>?_)⟩
     . rw[f.2 S N];exact n
     . cases e;rw[f.2 T W];exact q
     . have:b≠I:=fun z=>g (by simp[z]);rw[f.2 b this];exact e
 done:=fun s Q E st U=>by
  obtain⟨first,o,l,n,r,D,M⟩:=st;have ty:s.TypeIs (.ref I) "set_iterator" := ⟨_,l,rfl⟩
  have J:c[c.length]?=none:=Bx (Aj _);have stop:∀h':KU,(∀b o,b≠I->s.heap.get? b=some o->h'.get? b=some o)->KC (KE P w) A.in1 (do raiseNew (<- newExc (.type "StopIteration") []):Sem Fin) (fun _ _=>False)
   (fun x s'=>KC (KE P w) A (do let b<-isInstance x (.type "StopIteration");if b=true then pure Option.none else throw x) Q E s') {s with heap:=h'}:=by
   intro h' Z;refine Aa ?_;simp only[newExc,newTuple];refine Aa (AX ?_ (by size_fits));refine Aa (m:=firstArgMember _ _) (EJ (a:=Value.none) (by first|rfl|(simp only[firstArgMember];rfl)) ?_);refine AX ?_ (by size_fits);simp only[raiseNew];refine Aa (wpAny_handled ?_);rw[show A.in1.handled=none from hh];refine Aa (Ae (wpAny_throw ?_));refine Aa (DT (T := "StopIteration") (b:=true) ⟨_,An _ rfl,rfl⟩ Fw ?_);exact Ae (U _ _ fun b o hb e=>Ac _ (Ac _ (Z b o (fun z=>hb (by simp[z])) e)))
  unfold Kh;refine Aa (CV (Bn (name:=Bf "__next__") ty SF.slot_next (Bp SF.slot_next ty SF.entry_next ?_ (SF.args_next _))));show KC _ _ (fieldsOf (.ref I)>>=_) _ _ s;refine Aa (Fv l rfl ?_);show KC _ _ (setEntries S>>=_) _ _ s;refine Aa (Fn n r Y ?_);simp only[bne_self_eq_false,B0,if_false];rcases D.kind with⟨k,rfl⟩|⟨T,ps,rfl,ht,O,hps,u⟩
  . show KC _ _ (setNext S (Dy (k:Int)) (Dy (c.length:Int)) (Dy (ep:Int))>>=_) _ _ s;simp only[Bv];refine Aa (yv n r Y L D fun k' X=>?_);rw[J];show KC _ _ (setField (.ref I) 2 .none>>=_) _ _ s;refine Aa (Bq l (by simp) fun ha C j=>?_);refine BM (stop ha fun b o hb e=>by rw[j.2 b hb];exact e) (fun _ _ z=>z.elim) fun x s' z=>?_;exact z
  . have d:ps[c.length]?=none:=by
     have G:=a28 hps c.length;rw[<- u,J] at G;cases d:ps[c.length]? with
     | none=>rfl
     | some p =>
      rw[d] at G;have hp:p<es.size:=hps p (AE d);have H:es[p]?=some es[p]:=by simp[hp]
      have y:(none:Option KB)=(es[p]?).map (·.2):=G;rw[H] at y;cases y
    show KC _ _ (seqItems? (.ref T)>>=_) _ _ s;obtain⟨oT,eT,cT,nT,dT⟩:=O;refine Aa (Bm eT dT ?_);dsimp only;have R:((ps.map fun (p:Nat)=>Value.int p 0).toArray)[Dy (c.length:Int)]?=none:=by
     rw[Bv,Ct,Am,d];rfl
    rw[R];show KC _ _ (setField (.ref I) 0 (Ko 0)>>=_) _ _ s;refine Aa (Bq l (by simp) fun ha C j=>?_);refine Aa (Bq C (by simp) fun hb F f=>?_);refine BM (stop hb fun b o g e=>by rw[f.2 b g,j.2 b g];exact e) (fun _ _ z=>z.elim) fun x s' z=>?_;exact z
 self:=fun i s Q E st U=>by
  obtain⟨first,o,l,n,r,D,M⟩:=st;have ty:s.TypeIs (.ref I) "set_iterator" := ⟨_,l,rfl⟩
  refine FW ty SF.slot_self (Bp SF.slot_self ty SF.entry_self ?_ (SF.args_self _));show KC _ _ (ret (.ref I)) _ _ s;exact Ae ⟨_,rfl,"set_iterator",_,ty,SF.slot_next.lookup,U⟩
theorem a37(hS:SSet P w s.heap S X)(h:∀(h':KU) (d':Drawn) (I:KA) (R:List KA) (a:List KB) (St:Nat->KU->Prop),(∀b o,s.heap.get? b=some o->h'.get? b=some o)->s.heap.objs.size<=I->I∈R->(∀b∈R,b<h'.objs.size/\(b=S\/s.heap.objs.size<=b))->
 (∀A':Kq,A'.handled=none->Walks P w A' I R [I] a.length (fun i v=>a[i]?=some v) St)->St 0 h'->(∃ys,StrsAre a ys/\ys.Perm X)->Q (.ref I) {s with heap:=h',drawn:=d'}):
 KC (KE P w) A (pyIter (.ref S)) Q E s:=by
 obtain⟨o,es,ep,t,n,M,hd,ac,m,hnd,hb,C,G,aa⟩:=hS;have ty:s.TypeIs (.ref S) "set" := ⟨o,n,M.1⟩
 have z:S<s.heap.objs.size:=Ar n;have g:∀l:List (Int×KB),(∀e∈l,e∈es.toList)->StrsAre (l.map (·.2)) (l.map fun e=>mw e.2):=by
  intro l;induction l with
  | nil=>intro _;exact .nil
  | cons e r ih =>
   intro hm;obtain⟨u,hu⟩:=a0s ac (hm e (by simp));have:=StrsAre.cons (mw e.2) u (ih fun x Z=>hm x (Al _ Z));rw[<- hu] at this;exact this
 refine FW ty HU (Bp HU ty SF.entry_set_iter ?_ (PySem.F.args_set_iter_1 _));show KC _ _ (Gp S>>=_) _ _ s;unfold Gp;refine Aa (Aa (Fn n hd C (Ae ?_)));unfold setDrawn;refine Aa (Aa (DE n hd C ?_));dsimp only;refine Aa (vp (Ae ?_));have make:∀(first:KB) (q:KA) (a:List KB) (f:KU) (L:Drawn),(∀b ob,s.heap.get? b=some ob->f.get? b=some ob)->s.heap.objs.size<=f.objs.size->(∀T,first=.ref T->T=q)->q<f.objs.size->(q=S\/s.heap.objs.size<=q)->Ord w S es ep t f first 0 a->(∃ys,StrsAre a ys/\ys.Perm X)->
  Q (.ref f.objs.size) {s with heap:=f.push (a13 first 0 S es.size ep),drawn:=L}:=by
  intro first q a f L hk hsz hT H N od j
  have U:S≠f.objs.size:=AC (AK z hsz);have W:(f.push (a13 first 0 S es.size ep)).objs.size=f.objs.size+1:=Br ..;refine h _ L f.objs.size [f.objs.size,S,q] a (ab3 P w S f.objs.size q es ep t a) (fun b ob e=>Ac _ (hk b ob e)) hsz (by simp) (fun b hb=>?_) (fun A' hA=>?_) ⟨first,o,An _ rfl,Ac _ (hk S o n),hd,od.keep (fun T ob _ e=>Ac _ e),hT⟩ j
  . rw[W];have O:b=f.objs.size\/b=S\/b=q:=by simpa using hb
    rcases O with rfl|rfl|rfl
    . exact⟨Ce _,.inr hsz⟩
    . exact⟨C6 (AK z hsz),.inl rfl⟩
    . exact⟨C6 H,N⟩
  . exact a67 hA _ (by simp) (by simp) U C G (by simp) (AC H)
 have c:∀(a:List KB),Ord w S es ep t s.heap (.int 0 0) 0 a->(∃ys,StrsAre a ys/\ys.Perm X)->Q (.ref s.heap.objs.size) {s with heap:=s.heap.push (a13 (.int 0 0) 0 S es.size ep)}:=fun a od j =>
  make (.int 0 0) S a s.heap s.drawn (fun _ _ e=>e) (Aj _) (fun T e=>by cases e) z (.inl rfl) od j
 cases hbt:w.params.followText "set-order" with
 | true =>
  simp only[Bool.not_true,Fq,B0,if_false];refine Aa (Ae (Aa (FY n hd C ?_)));refine Aa (AX (Ae ⟨_,rfl,"set_iterator",_,⟨_,An _ rfl,rfl⟩,SF.slot_next.lookup,?_⟩));refine c _ (.text 0 hbt) ⟨_,g _ (fun e y=>(a0w _ es).mem_iff.mp y),?_⟩;rw[<- m];exact (a0w _ es).map _
 | false =>
  show KC _ _ (if (!false && (!t.plain && decide (es.size>1)))=true then _ else _) _ _ s;by_cases Y:es.size>1
  . have ab:t.plain=false:=aa (by lia);rw[if_pos (by simp[ab,Y])];refine Aa (ub es.size (Cb es.size) s _ (by simp) fun ps d hps=>?_);have D:ps.length=es.size:=by rw[hps.length_eq,EE]
    refine Aa (AX ?_ ?_)
    . refine (Aa (FY (s:={s with heap:=s.heap.push _,drawn:=d}) (Ac _ n) hd C ?_));refine Aa (AX (Ae ⟨_,rfl,"set_iterator",_,⟨_,An _ rfl,rfl⟩,SF.slot_next.lookup,?_⟩));have ae:∀p∈ps,p<es.size:=fun p hp=>Dc.mp (hps.mem_iff.mp hp);refine make (.ref s.heap.objs.size) s.heap.objs.size (ps.filterMap fun p=>(es[p]?).map (·.2)) (s.heap.push _) d (fun b ob e=>Ac _ e) (by rw[Br];exact Bs _) (fun T e=>by cases e;rfl) (by rw[Br];exact Ce _) (.inr (Aj _))
       (.drawn 0 _ ps hbt ⟨_,An _ rfl,rfl,_,rfl⟩ ae) ?_
      have e1:(ps.filterMap fun p=>(es[p]?).map (·.2))=(ps.filterMap fun p=>es[p]?).map (·.2):=by rw[List.map_filterMap]
      have J:(ps.filterMap fun p=>es[p]?).Perm es.toList:=by
       have:=hps.filterMap (fun p=>es[p]?);have e2:=a0p es.toList;simp only[BO,Bj] at e2;rw[e2] at this;exact this
      refine⟨_,by rw[e1];exact g _ (fun e y=>J.mem_iff.mp y),?_⟩;rw[<- m];exact J.map _
    . have hz:ps.length<=KF:=by rw[D];exact FV hb
      show (ps.map _).toArray.size<=KF;rw[Ao,Ad];exact hz
  . rw[if_neg (by simp[Y])];refine Aa (Ae (Aa (FY n hd C ?_)));refine Aa (AX (Ae ⟨_,rfl,"set_iterator",_,⟨_,An _ rfl,rfl⟩,SF.slot_next.lookup,?_⟩));by_cases f:es.size=0
    . refine c [] (.none 0 0 hbt f) ⟨[],.nil,?_⟩;rw[<- m,Fg f];exact Eu _
    . obtain⟨e,y⟩:∃e,es = #[e]:=by
       obtain⟨l⟩:=es;have hl:l.length=1:=by
        have a1:¬ l.length>1:=Y;have a2:¬ l.length=0:=f
        lia
       obtain⟨e,rfl⟩:=List.length_eq_one_iff.mp hl;exact⟨e,rfl⟩
      refine c [e.2] (.one0 e hbt y) ⟨[mw e.2],g [e] (fun x Z=>by rw[y];exact Z),?_⟩;rw[<- m,y];exact Eu _
theorem a2c(hh:A.handled=none)(hS:SSet P w s.heap S X)(hl:X.length<=KF)(h:∀(h':KU) (d':Drawn) (tk:Nat) (c:List KB) (ys:List Str),(∀b o,s.heap.get? b=some o->h'.get? b=some o)->s.heap.objs.size<=h'.objs.size->StrsAre c ys->ys.Perm X->Q c {s with heap:=h',drawn:=d',toks:=tk}):
 KC (KE P w) A (collect (.ref S)) Q E s:=by
 obtain⟨o,es,ep,t,Y,u,hd,ai⟩:=id hS;have O:S<s.heap.objs.size:=Ar Y;unfold collect;refine Aa (wpAny_runValue (Bw entry_proto_collect' ?_));rw[AY PySem.F.plain_proto_collect _];show KC _ A.in1 (newList []>>=fun l=>again (.builtin "list.__iadd__" ⟨[l,.ref S],[]⟩)) _ _ s;refine Aa (AX ?_);refine Ae ⟨BC Hb _,Bw entry_list_iadd' ?_⟩;rw[AY Hb _];generalize hH:s.heap.push {cls:=.type "list",data:=.seq ([]:List KB).toArray}=H;have n:H.objs.size=s.heap.objs.size+1:=by rw[<- hH,Br]
 have old:∀b ob,s.heap.get? b=some ob->H.get? b=some ob:=fun b ob e=>by rw[<- hH];exact Ac _ e
 have aj:SSet P w H S X:=hS.at fun o e=>old S o e;have hD:H.get? s.heap.objs.size=some {cls:=.type "list",data:=.seq #[]}:=by rw[<- hH];exact An _ rfl
 show KC _ A.in1 (FD (.ref s.heap.objs.size) (.ref S) (.ref s.heap.objs.size)) _ _ {s with heap:=H};unfold FD;refine Aa (CJ (T := "set") (v:=.ref S) (show EN {s with heap:=H} (.ref S) "set" from⟨o,old S o Y,u.1⟩) ?_);have d:Gq (.ref s.heap.objs.size) (.ref S)=false:=by simp[Gq,BV O]
 have h2:(Value.type "set"==Value.type "list")=false:=by decide
 have h3:(Value.type "set"==Value.type "tuple")=false:=by decide
 simp only[d,h2,h3,JO,B0,if_false];refine Aa (a37 (s:={s with heap:=H}) aj fun h' d' I fp c St hk hI al ag W st ⟨ys,q,hp⟩=>?_);have p:EN {s with heap:=h',drawn:=d'} (.ref S) "set" := ⟨o,hk S o (old S o Y),u.1⟩
 refine Aa (AU ?_);unfold Builtin.List.listLengthHint;refine Aa (Hj (T := "set") (v:=.ref S) p SF.set_len ?_)
 wp_delta
 refine Aa (DT (T := "set") (v:=.ref S) (b:=true) p SF.sub_set ?_);show KC _ A.in1 (typeOf (Value.ref S)>>=_) _ _ _;refine Aa (CJ (T := "set") (v:=.ref S) p ?_);refine Ae ?_;have ak:s.heap.objs.size≠I:=fun z=>by
  have:H.objs.size<=I:=hI;rw[n] at this
  lia
 have y:s.heap.objs.size∉fp:=fun hb=>by
  rcases (ag _ hb).2 with z|z
  . exact absurd z (BV O)
  . have:H.objs.size<=s.heap.objs.size:=z;rw[n] at this
    lia
 have U:c.length=X.length:=by
  have a1:c.length=ys.length:=q.length;rw[a1,hp.length_eq]
 have key:∀(d:KU) (m:Nat),St 0 d->(∀b ob,b≠s.heap.objs.size->h'.get? b=some ob->d.get? b=some ob)->d.get? s.heap.objs.size=some {cls:=.type "list",data:=.seq #[] m}->
  Km (KE P w) A (.builtin "list.extend.loop" ⟨[.ref s.heap.objs.size,.ref I,.ref s.heap.objs.size],[]⟩)
   (fun r s'=>r=.ok (.ret (.ref s.heap.objs.size))/\∃a f,s'.heap.get? s.heap.objs.size=some {cls:=.type "list",data:=.seq a f}/\Q a.toList s') {s with heap:=d,drawn:=d'}:=by
  intro d m ah Z ab;refine codeAny_extend_loopS (W A.in1 hh).toS (by rw[U];exact hl) _ y _ c.length 0 _ #[] m rfl (AH _) ah ab (ItemsOf.nil _) fun s' a f hm D g=>?_;refine⟨rfl,a,f,D,?_⟩;have J:a.toList=c:=by
   refine Jg fun i=>?_;rw[BO];by_cases hi:i<a.size
   . have e:a[i]?=some a[i]:=by simp[hi]
     rw[e,g.2 i _ e]
   . have aa:c.length<=i:=by have:=g.1;lia
     rw[Bx aa];simp;lia
  have af:s'={s with heap:=s'.heap,drawn:=d',toks:=s'.toks}:=Moved.eq_with hm;rw[J,af];refine h s'.heap d' s'.toks c ys (fun b ob e=>?_) (BG (Ar D)) q hp;have L:b≠s.heap.objs.size:=AC (Ar e);have ac:b≠I:=fun z=>by
   have hz:H.objs.size<=b:=by rw[z];exact hI
   rw[n] at hz;exact Bz _ (AK (C6 (Ar e)) hz)
  exact hm.heap b ob (by simp[L,ac]) (Z b ob L (hk b ob (old b ob e)))
 have j:h'.get? s.heap.objs.size=some {cls:=.type "list",data:=.seq #[]}:=hk _ _ hD;have fin:∀(d:KU) (m:Nat),St 0 d->(∀b ob,b≠s.heap.objs.size->h'.get? b=some ob->d.get? b=some ob)->d.get? s.heap.objs.size=some {cls:=.type "list",data:=.seq #[] m}->∀(R:Result->KG->Prop),
  (∀s' a f,s'.heap.get? s.heap.objs.size=some {cls:=.type "list",data:=.seq a f}->Q a.toList s'->R (.ok (.ret (.ref s.heap.objs.size))) s')->
  Km (KE P w) A (.builtin "list.extend.loop" ⟨[.ref s.heap.objs.size,.ref I,.ref s.heap.objs.size],[]⟩) R {s with heap:=d,drawn:=d'}:=by
  intro d m a1 a2 a3 R hR;refine DK (key d m a1 a2 a3) fun r s' ⟨e,a,f,G,M⟩=>?_;subst e;exact hR s' a f G M
 have last:∀(R:Result->KG->Prop),R=R->True:=fun _ _=>trivial;refine wpAny_ite_split (fun _=>?_) (fun _=>Ae ⟨BC Gc _,fin h' 0 st (fun b ob _ e=>e) j _ fun s' a f G M=>?_⟩)
 . refine Aa (Cp ?_);refine Aa ?_;show KC _ _ (updateSeq s.heap.objs.size (·.push .none)>>=fun _=>updateSeq s.heap.objs.size (·.pop)) _ _ _;refine Aa (Eb j rfl ?_);have C:=B9 (Es (·.push Value.none)) j rfl;refine Eb (hz:=by seq_fits) C rfl ?_;have ae:=B9 (Es (·.pop)) C rfl;refine Ae ⟨BC Gc _,fin _ _ ?_ (fun b ob hb e=>?_) ae _ fun s' a f G M=>?_⟩
   . refine (W A.in1 hh).frame 0 _ _ st fun b hb o e=>?_;have N:b≠s.heap.objs.size:=fun z=>y (z ▸ hb);exact (By _ _ (AO N)).trans ((By _ _ (AO N)).trans e)
   . exact (By _ _ (AO hb)).trans ((By _ _ (AO hb)).trans e)
   . show KC _ A (load s.heap.objs.size>>=_) _ _ _;exact Aa (J8 G (Ae M))
 . show KC _ A (load s.heap.objs.size>>=_) _ _ _;exact Aa (J8 G (Ae M))
theorem a34(H:A.handled=none)(D:SSet P w s.heap S v)(r:v.length<64)(h:∀(h':KU) (d':Drawn) (tk:Nat) (l:KA) (vs:List KB) (zs:List Str) (e:Nat),(∀b o,s.heap.get? b=some o->h'.get? b=some o)->s.heap.objs.size<=l->h'.get? l=some {cls:=.type "list",data:=.seq vs.toArray e}->StrsAre vs zs->zs.Perm v->sortedS zs=true->
 Q (.ref l) {s with heap:=h',drawn:=d',toks:=tk}):
 KC (KE P w) A (call (.builtin "sorted") [.ref S]) Q E s:=by
 refine Calls.call_function_entry kind_sorted plain_sorted entry_sorted (args_sorted1 _) ?_;unfold Builtin.«sorted»;refine Aa (m:=checkCount "sorted" 1 1 _) (Ae ?_);refine Aa (a2c (A:=A.in1) (show A.in1.handled=none from H) D (by rw[Hr];lia) fun p u n a ys g j c f=>?_);have hn:a.length<64:=by
  have:a.length=ys.length:=c.length;rw[this,f.length_eq];exact r
 refine Aa (wpAny_newList ?_ (by rw[Hr];lia));have d:(p.push (seqObj "list" a.toArray 0)).get? p.objs.size=some (seqObj "list" a.toArray 0):=An _ rfl;show KC _ _ _ _ _ {s with heap:=p.push (seqObj "list" a.toArray 0),drawn:=u,toks:=n};refine Aa (AU (Bp slot_list_sort ⟨_,d,rfl⟩ entry_list_sort (list_sort_treeK strKind_oneLt d c.keysOf (fun J L rest e=>keyKind_strs (by rw[<- e];exact c)) hn fun i z I=>⟨_,rfl,?_⟩) (args_list_sort _)));obtain⟨zs,G,C,F⟩:=sorted_out_str c z I;refine Ae ⟨_,rfl,?_⟩;obtain⟨e,y⟩:=sortedHeap_at (out:=(arrOf i).map (·.2)) d;refine h _ u n p.objs.size ((arrOf i).map (·.2)).toList zs e (fun b o q=>?_) j y G (C.trans f) F;have hb:=Ar (g b o q);rw[sortedHeap_old (AC hb) (by rw[Br];exact C6 hb)];exact Ac _ (g b o q)
noncomputable def SetO(P:KZ)(w:KY)(a:KA)(ss:List Str):HO:=.ext fun h=>SSet P w h a ss
theorem vi:∀{xs:List Str}{us:List KB},Vals (xs.map V.str) us->StrsAre us xs
 | [],_,h=>by cases h;exact .nil
 | x::r,_,h=>by
  cases h with
  | cons h1 h2=>obtain⟨t,rfl⟩:=h1;exact .cons x t (vi h2)
theorem v9:∀{us:List KB}{xs:List Str},StrsAre us xs->Vals (xs.map V.str) us
 | _,_,.nil=>.nil
 | _,_,.cons x t r=>.cons ⟨t,rfl⟩ (v9 r)
theorem a2k(hc:X.calm=true):ku X (.type "set") (fun vs H Q=>∃(a:KA) (xs:List Str),vs=[.ref a]/\SqL X.K H a (xs.map V.str)/\xs.length+1<scanBound/\
 ∀p c,H p=none->Dd xs c->Q (.ref p) (upd H p (SetO X.prog X.w p c))):=by
 intro f s σ H vs us Q I r h;obtain⟨a,xs,rfl,hq,hz,q⟩:=h;obtain⟨u,rfl,g⟩:=r.one;cases g;obtain⟨its,m,p,_⟩:=I.list hq;have hs:=vi m;have hl:its.length=xs.length:=hs.length;refine a0z (I.ok.hd hc) p.isList (by simpa using hs) (by rw[Ao,hl];exact hz) fun h' tk c d hd j=>?_;have fr:H s.heap.objs.size=none:=I.hok.fresh (Aj _);refine⟨.ref s.heap.objs.size,upd H s.heap.objs.size (SetO X.prog X.w s.heap.objs.size c),I.laid (t':=tk) (fun b o e=>j b o (Ar e) e) (Aj _) ⟨d,?_,fun v n i k=>?_⟩,rfl,q _ c fr hd⟩
 . obtain⟨o,_,_,_,l,_⟩:=d;exact⟨o,l⟩
 . exact SSet.at i k
theorem sq(hc:X.calm=true):ku X (.builtin "sorted") (fun vs H Q=>∃(a:KA) (c:List Str),vs=[.ref a]/\H a=some (SetO X.prog X.w a c)/\c.length<64/\
 ∀p zs,H p=none->zs.Perm c->sortedS zs=true->Q (.ref p) (upd H p (.lst (zs.map V.str)))):=by
 intro j s σ H vs us Q I r h;obtain⟨a,c,rfl,hq,hz,q⟩:=h;obtain⟨u,rfl,m⟩:=r.one;cases m;have n:SSet X.prog X.w s.heap a c:=(I.hok a _ hq).1;refine a34 (I.ok.hd hc) n hz fun h' d' tk l ws zs e i hl d hs hp f=>?_;have fr:H l=none:=I.hok.fresh hl;have v:zs.length<64:=by rw[hp.length_eq];exact hz
 have g:HOk X.prog X.w (upd H l (.lst (zs.map V.str))) h':=I.hok.laid (a:=l) (o:=.lst (zs.map V.str)) i hl ⟨by rw[Ad];exact BG (l8 (by lia)),ws,e,v9 hs,d⟩;have un:Un (frs X.stack) [] H (upd H l (.lst (zs.map V.str))) s.heap h':=Un.laid i hl fr;exact⟨.ref l,_,I.call (g':=s.gens) (d':=d') (t':=tk) (ch:=[]) un g I.bare (fun b z=>absurd z (by simp)),rfl,q l zs fr hp f⟩
theorem Inv.track(I:Inv Y d σ H s)(hn:H a=none)(h0:Y.s₀.heap.get? a=none)(g:a≠Y.env.locals)(hc:∀x c,Y.env.cells.lookup x=some c->c≠a)(hp:∀p∈Y.pn++d,p.1≠a)(h:ObjOk Y.prog Y.w (upd H a o) s.heap a o):Inv Y d σ (upd H a o) s:=by
 have keep:∀b u,H b=some u->upd H a o b=some u:=fun b u e=>by rw[f6 (gh e hn)];exact e
 refine⟨I.ok,I.os,I.bare,⟨I.base.keep,I.base.slot,fun b ob e n f=>?_,I.base.there,fun b xs e=>keep b _ (I.base.tups b xs e),fun b ob xs e=>keep b _ (I.base.frzs b ob xs e),fun b ps e=>?_⟩,I.loc,I.cell,?_,fun x c e=>?_,fun p q=>?_,fun b u e=>?_,I.len⟩
 . have:b≠a:=fun z=>by rw[z,h0] at e;cases e
   rw[f6 this];exact I.base.free b ob e n f
 . obtain⟨m,i⟩:=I.base.tbls b ps e;exact⟨m,keep b _ i⟩
 . rw[f6 (AO g)];exact I.free
 . rw[f6 (hc x c e)];exact I.freeC x c e
 . obtain⟨p1,p2,p3⟩:=I.pin p q;exact⟨p1,by rw[f6 (hp p q)];exact p2,p3⟩
 . by_cases hb:b=a
   . subst hb;rw[g8] at e;cases e;exact h
   . rw[f6 hb] at e;exact (I.hok b u e).stay (fun _ _ _ q=>q) (fun c q=>keep c _ q) fun c xs q=>keep c _ q
open PySem.Builtin PySem.Builtin.ObjectAttr PySem.Builtin.Getset_descriptor
mutual
inductive Dp(K:Ab)(H:Hp):V->PyData->Prop
 | non:Dp K H .non .none
 | bl (b:Bool):Dp K H (.bl b) (.bool b)
 | int (i:Int):Dp K H (.int i) (.int i)
 | str (x:Str):Dp K H (.str x) (.str x)
 | lst{a:KA}{xs:List V}{ds:List PyData}:SqL K H a xs->DpAll K H xs ds->Dp K H (.ref a) (.list ds)
 | tup{a:KA}{xs:List V}{ds:List PyData}:SqT K H a xs->DpAll K H xs ds->Dp K H (.ref a) (.tuple ds)
inductive DpAll(K:Ab)(H:Hp):List V->List PyData->Prop
 | nil:DpAll K H [] []
 | cons{v:V}{vs:List V}{d:PyData}{ds:List PyData}:Dp K H v d->DpAll K H vs ds->DpAll K H (v::vs) (d::ds)
end
mutual
theorem Dp.reads(I:Inv X pins σ H s):∀{v:V}{d:PyData},Dp X.K H v d->∀{u:KB},RelV v u->∃as,Reads s.heap u d as
 | _,_,.non,_,r=>by cases r;exact⟨_,.none⟩
 | _,_,.bl b,_,r=>by cases r;exact⟨_,.bool b⟩
 | _,_,.int i,_,r=>by obtain⟨t,rfl⟩:=r;exact⟨_,.int i t⟩
 | _,_,.str x,_,r=>by obtain⟨t,rfl⟩:=r;exact⟨_,.str x t⟩
 | _,_,.lst hs ha,_,r=>by
  cases r;obtain⟨its,rv,⟨o,n,e,hc,_,hd⟩,_⟩:=I.list hs;obtain⟨as,ra⟩:=DpAll.reads I ha rv;exact⟨_,.list e hc hd (by simpa using ra)⟩
 | _,_,.tup hs ha,_,r=>by
  cases r;obtain⟨its,rv,⟨o,e,hc,n,hd⟩,_⟩:=I.tuple hs;obtain⟨as,ra⟩:=DpAll.reads I ha rv;exact⟨_,.tuple e hc hd (by simpa using ra)⟩
theorem DpAll.reads(I:Inv X pins σ H s):∀{vs:List V}{ds:List PyData},DpAll X.K H vs ds->∀{us:List KB},Vals vs us->∃as,ReadsAll s.heap us ds as
 | _,_,.nil,_,r=>by cases r;exact⟨_,.nil⟩
 | _,_,.cons h1 h2,_,r=>by
  cases r with
  | cons r1 r2 =>
   obtain⟨as,q1⟩:=Dp.reads I h1 r1;obtain⟨bs,q2⟩:=DpAll.reads I h2 r2;exact⟨_,.cons q1 q2⟩
end
noncomputable def EqOk(d:PyData):Prop:=d.canLay0=true/\d.depth<=16
noncomputable def RowAt(K:Ab)(H:Hp)(a:KA)(r:List Str):Prop:=SqT K H a (r.map V.str)
noncomputable def RowsAt(K:Ab)(H:Hp)(a:KA)(rs:List (List Str)):Prop:=∃as:List KA,H a=some (.lst (as.map V.ref))/\KI (fun b r=>RowAt K H b r) as rs
noncomputable def af5(K:Ab)(H:Hp)(a:KA)(rss:List (List (List Str))):Prop:=∃as:List KA,SqT K H a (as.map V.ref)/\KI (fun b rs=>RowsAt K H b rs) as rss
theorem Same.seqT{K:Ab}(e:Same H H')(h:SqT K H a xs):SqT K H' a xs:=by
 rcases h with (h|⟨o,h⟩)|h
 . exact .inl (.inl (e _ _ h))
 . exact .inl (.inr ⟨o,e _ _ h⟩)
 . exact .inr h
theorem RowAt.same{K:Ab}(h:RowAt K H a r)(e:Same H H'):RowAt K H' a r:=e.seqT h
theorem RowsAt.same{K:Ab}(h:RowsAt K H a rs)(e:Same H H'):RowsAt K H' a rs:=by
 obtain⟨as,d,c⟩:=h;exact⟨as,e _ _ d,Paired.mapP c fun b r z=>z.same e⟩
theorem gk(h:H p=none)(o:HO):Same H (upd H p o):=by grind [Same,upd]
noncomputable def a12(K:Ab)(w:KY)(a:KA)(kvs:List (Str×V)):Prop :=
 ∃es n,K.lookup a=some ⟨.type "dict",none,.dict es n,#[]⟩/\Hk w.params es.toList/\(a==KW)=false/\∀x,RelO (kvs.lookup x) (findBy BU es x)
noncomputable def abb(X:Cx)(to:TE)(t:TA):TE:=fun σ H Q=>to σ H fun x H1=>∃a kvs,x=.ref a/\a12 X.K X.w a kvs/\t σ H1 fun ys H2=>∃z,ys=[.str z]/\Q ((kvs.lookup z).getD .non) H2
theorem acz{t:TA}(M:PE X o to)(ha:PA X [e] t)(f:autoParam (KQ o "get" X.env (eval o X.env)=eval o X.env) a3_)(l:autoParam (((KP b (KD [e] X.env)).all (fun x => !x.1) && (Kj b (KO [] X.env)).all (fun x=>x.1.isSome)
 && decide ([e].length+([]:List Keyword).length+(if ([]:List Keyword).isEmpty then 0 else 1)<30))=true) a3_)(g:autoParam ((m.endLine==b.line)=true) a3_)(hs:autoParam (KD [e] X.env=(false,eval e X.env)::KD [] X.env) a3_)(c:autoParam ((KP b (KD [] X.env)).any (·.1)=false) a3_):
 PE X (.Call (.Attribute o "get" m) [e] [] b) (abb X to t):=by
 intro d s σ H Q I h;refine Hu f l g rfl (thn (M d s σ H _ I h) fun v y ⟨x,C,q,E,a,kvs,ex,hd,R⟩=>?_);subst ex;cases E;obtain⟨es,n,hl,J,p,L⟩:=hd;have mp:∀s':KG,X.K.In s'.heap->s'.heap.MapOf (Kp X.prog X.w) a (fun k=>findBy BU es k):=fun s' kin=>JC kin hl J;have i:=mp y q.kIn;refine⟨"dict","dict.get",BQ,CQ,HV,i.typeIs,i.noDict,?_⟩;have r:=ha b d y σ C _ q R;rw[hs] at r |-;refine CH (by show (false || (KP b (KD [] X.env)).any (·.1))=false;rw[c]<;>rfl) (DR ?_);refine thn r fun us G ⟨vs,N,A,O,z,S,P⟩=>?_;subst S;obtain⟨u,rfl,D⟩:=O.one;obtain⟨t',rfl⟩:=D;have j:=mp G A.kIn;refine DL CQ j.typeIs EK (PySem.F.args_dict_get_2 _ _) (meets_dict_get (Kp X.prog X.w) a (Gb _ _ z t') p) ⟨_,j,?_⟩;have hz:=L z;refine⟨(kvs.lookup z).getD .non,N,A.tok _,?_,P⟩;cases e1:kvs.lookup z with
 | none =>
  rw[e1] at hz;cases e2:findBy BU es z with
  | none=>rfl
  | some u=>rw[e2] at hz;exact hz.elim
 | some v =>
  rw[e1] at hz;cases e2:findBy BU es z with
  | none=>rw[e2] at hz;exact hz.elim
  | some u=>rw[e2] at hz;exact hz
open PySem.Builtin.Str
noncomputable def cutS(z:Str)(lo hi:Option Int):Str:=⟨((z.cps.toList.drop (HT.sIx z.length 0 lo)).take (HT.sIx z.length z.length hi-HT.sIx z.length 0 lo)).toArray⟩
theorem yx(n d:Nat)(hd:d<=n)(v:Option Int)(a:∀i,v=some i -> -(n:Int)<=i\/0<=i\/True):HT.sIx n d v<=n:=by
 cases v with
 | none=>exact hd
 | some i =>
  show (if i<0 then (i+(n:Int)).toNat else min i.toNat n)<=n;split<;>lia
theorem a2y(n d:Nat)(hd:d<=n)(v:Option Int):(match v with|none=>(d:Int)|some i=>max 0 (min (if i<0 then i+(n:Int) else i) (n:Int)))=((HT.sIx n d v:Nat):Int):=by
 cases v with
 | none=>rfl
 | some i =>
  show max 0 (min (if i<0 then i+(n:Int) else i) (n:Int))=((if i<0 then (i+(n:Int)).toNat else min i.toNat n:Nat):Int)
  split<;>lia
theorem a45(lo hi:Option Int)(n:Nat):strSliceIndices lo hi 1 n=(Cb (HT.sIx n n hi-HT.sIx n 0 lo)).map (fun k=>HT.sIx n 0 lo+k):=by
 have e:=a2y n 0 (AH _) lo;have c:=a2y n n (Aj _) hi;have key:strSliceIndices lo hi 1 n=sliceRange ((HT.sIx n 0 lo:Nat):Int) ((HT.sIx n n hi:Nat):Int) 1:=by
  rw[<- e,<- c];cases lo<;>cases hi<;>rfl
 rw[key];generalize HT.sIx n 0 lo=a;generalize HT.sIx n n hi=b;unfold sliceRange;simp only[show ((1:Int)>0)=True from by simp,if_true];by_cases h:(a:Int)<b
 . rw[if_pos h];have f:(((b:Int)-a+1-1) / 1).toNat=b-a:=by lia
   rw[f];refine BZ fun k _=>?_
   lia
 . rw[if_neg h];have d:b-a=0:=by lia
   rw[d];rfl
theorem a7m(z:Str)(lo hi:Option Int):((strSliceIndices lo hi 1 z.length).filterMap (z.cps[·]?))=(z.cps.toList.drop (HT.sIx z.length 0 lo)).take (HT.sIx z.length z.length hi-HT.sIx z.length 0 lo):=by
 rw[a45];have hz:z.length=z.cps.toList.length:=by simp[Ga]
 have hb:HT.sIx z.length z.length hi<=z.length:=yx _ _ (Aj _) hi fun _ _=>.inr (.inr trivial);generalize HT.sIx z.length 0 lo=a at*;generalize HT.sIx z.length z.length hi=b at*;by_cases h:a<=b
 . have:=StrLaws.picks z.cps.toList (b-a) a (by lia);simpa using this
 . have e:b-a=0:=by lia
   rw[e];simp
noncomputable def rSlS:V->Option Int->Option Int->Hp->VK->Prop:=fun x lo hi H Q=>∃z,x=.str z/\z.length<=KF/\Q (.str (cutS z lo hi)) H
theorem a1w:SlR X rSlS:=by
 intro d s σ H x v w C lo hi e Q I n hs pl f h;obtain⟨z,rfl,hz,q⟩:=h;obtain⟨t,rfl⟩:=n;refine⟨"str",_,PySem.F.slot_str_getitem.lookup,Ih s z t,?_⟩;obtain⟨l,hl,A⟩:∃l:Option (Int×Tok),partValue l=w/\l.map (·.1)=lo:=by
  cases pl with
  | none=>exact⟨none,rfl,rfl⟩
  | int i t=>exact⟨some (i,t),rfl,rfl⟩
 obtain⟨u,r,g⟩:∃u:Option (Int×Tok),partValue u=C/\u.map (·.1)=hi:=by
  cases f with
  | none=>exact⟨none,rfl,rfl⟩
  | int i t=>exact⟨some (i,t),rfl,rfl⟩
 have y:s.heap.IsSlice e l u none:=by
  obtain⟨o,m,hc,hd⟩:=hs;exact⟨o,m,hc,by rw[hd,hl,r];rfl⟩
 refine getItem_meets (Ih s z t) (by decide) PySem.F.slot_str_getitem PySem.F.entry_str_getitem (PySem.F.args_str_getitem_2 _ _) (meets_str_getitem_slice z t e l u none (by decide)) ⟨y,?_⟩;have a:slicePicked z l u none=strSliceIndices lo hi 1 z.length:=by
  unfold slicePicked;rw[A,g];rfl
 have b:((slicePicked z l u none).filterMap (z.cps[·]?))=(z.cps.toList.drop (HT.sIx z.length 0 lo)).take (HT.sIx z.length z.length hi-HT.sIx z.length 0 lo):=by rw[a];exact a7m z lo hi
 unfold sliceMade;split
 . rename_i hw;have c:(slicePicked z l u none).length=z.length:=by simpa using hw
   have eq:cutS z lo hi=z:=by
    have j:((z.cps.toList.drop (HT.sIx z.length 0 lo)).take (HT.sIx z.length z.length hi-HT.sIx z.length 0 lo))=z.cps.toList:=by
     rw[a,a45,Ad,EE] at c;have hb:HT.sIx z.length z.length hi<=z.length:=yx _ _ (Aj _) hi fun _ _=>.inr (.inr trivial);rcases IW z.length with h0|h0
     . have:z.cps.toList=[]:=by
        have:z.cps.toList.length=0:=by simpa [Ga] using h0
        exact B8 this
       rw[this];simp
     . have p:HT.sIx z.length 0 lo=0:=by lia
       have D:HT.sIx z.length z.length hi=z.length:=by lia
       rw[p,D,De,Fh];exact Bi (by simp[Ga])
    unfold cutS;rw[j]
   rw[eq] at q;exact⟨.str z,H,I,⟨t,rfl⟩,q⟩
 . show (Made.str _).post _ s;rw[b];refine⟨?_,.str (cutS z lo hi),H,I.tok _,⟨_,rfl⟩,q⟩;refine Aw ?_ hz;show ((z.cps.toList.drop (HT.sIx z.length 0 lo)).take (HT.sIx z.length z.length hi-HT.sIx z.length 0 lo)).toArray.size<=z.cps.size;rw[Ao,AQ,Bb,Bj]
   lia
theorem v7:OpR X (KL .In) (fun x y H Q=>∃(c:Nat) (z:Str),x=.str ⟨#[c]⟩/\y=.str z/\Q (.bl (decide (c∈z.cps.toList))) H):=by
 intro a s σ H x y v u Q I d b h;obtain⟨c,z,rfl,rfl,q⟩:=h;refine a84 a s σ H _ _ v u Q I d b ⟨_,_,rfl,rfl,?_⟩;rw[StrLaws.found_one];exact q
noncomputable def Glob(mg:Str->Option KB)(x:Str)(v:V):Prop:=∃u,mg x=some u/\RelV v u
theorem pe_g{x:Str}(h:Glob X.mg x v)(a:autoParam (Gl X x) a3_)(hd:autoParam ((x==("__debug__":Str))=false) a1_):PE X (.Name x pos) (tC v):=by
 obtain⟨u,hm,r⟩:=h;exact adb a hm r hd
theorem a2b(a:∀y∈c.names,y.2≠.free)(b:∀y∈c.names,y.2≠.cell)(y:Str)(h:(KS c env).names.lookup y=some .cell\/(KS c env).names.lookup y=some .free):False:=by
 have key:∀k,(KS c env).names.lookup y=some k->∃z∈c.names,z.2=k\/z.2=.free:=fun k e=>by
  have hm:=BL e;obtain⟨z,hz,d⟩:=AA.mp hm;refine⟨z,hz,?_⟩;obtain⟨n,kk⟩:=z;dsimp only at d;split at d
  . rename_i hc;simp only[BR,beq_iff_eq] at hc;exact .inr hc.1.1
  . exact .inl (congrArg Prod.snd d)
 rcases h with h|h
 . obtain⟨z,hz,q|q⟩:=key _ h
   . exact b z hz q
   . exact a z hz q
 . obtain⟨z,hz,q|q⟩:=key _ h
   . exact a z hz q
   . exact a z hz q
theorem xy{x:Str}(hi:PI X (.Name x px) g q)(n:∀s H C ex,PTs (blk X [x] s H f [] C ex) m u)(o:∀s H C ex,PE (blk X [x] s H f [] C ex) l r)(hc:autoParam (X.calm=true) a3_)(i:autoParam (f.kind=.function) a3_)(p:autoParam (f.names.lookup x=some .local) a1_)(a:autoParam (∀y∈f.names,y.2≠.free) a1_)(b:autoParam (∀y∈f.names,y.2≠.cell) a1_)(d:autoParam (∀y∈f.names,y.2=.local->f.names.lookup y.1=some .local) a1_)(hs:autoParam (∀x,KM g X.env x=pure x) a2_):
 PE X (.ListComp l [⟨.Name x px,g,m,0⟩] f pos) (uo [] q u r) :=
 a3l [x] hc hi n o i rfl (by simp) p (PySem.closureFor_none a) b d (fun y c e=>by simp at e) (fun y h=>(a2b a b y h).elim) (fun j v=>by simp at v) hs
structure JSeq(J:It)(I0:Hp->Prop)(xs:List V):Prop where
 go:∀i H,I0 H->i<xs.length->J.go i H
 stop:∀i H,I0 H->xs.length<=i->J.stop i H
 yld:∀i H x H',i<xs.length->I0 H->J.yld i H x H'->H'=H/\xs[i]?=some x
 stay:∀H H',I0 H->Same H H'->I0 H'
theorem a1l{K:Ab}:JSeq (Itt K a) (fun H=>SqT K H a xs) xs where
 go:=fun i H h hi=>⟨xs,xs[i],h,by simp[hi]⟩
 stop:=fun i H h hi=>⟨xs,h,hi⟩
 yld:=fun i H x H' _ h y=>⟨y.1,y.2 xs h⟩
 stay:=fun H H' h e=>e.seqT h
theorem nr{K:Ab}:JSeq (Itl K a) (fun H=>SqL K H a xs) xs where
 go:=fun i H h hi=>⟨xs,xs[i],h,by simp[hi]⟩
 stop:=fun i H h hi=>⟨xs,h,hi⟩
 yld:=fun i H x H' _ h y=>⟨y.1,y.2 xs h⟩
 stay:=fun H H' h e=>e.seq h
noncomputable def um(z:Str):List V:=z.cps.toList.map fun c=>V.str ⟨#[c]⟩
theorem a9y:JSeq (Its z) (fun _=>True) (um z) where
 go:=fun i H _ hi=>by simpa [um,Its] using hi
 stop:=fun i H _ hi=>by simpa [um,Its] using hi
 yld:=fun i H x H' _ _ y=>by
  obtain⟨e,c,hc,rfl⟩:=y;refine⟨e,?_⟩;unfold um;rw[Am,BO,hc];rfl
 stay:=fun _ _ _ _=>trivial
noncomputable def nums(lo:Int)(n:Nat):List V:=(Cb n).map fun i=>V.int (lo+(i:Nat))
theorem a1y{lo:Int}:JSeq (Itr lo n) (fun _=>True) (nums lo n) where
 go:=fun i H _ hi=>by simpa [nums,Itr] using hi
 stop:=fun i H _ hi=>by simpa [nums,Itr] using hi
 yld:=fun i H x H' hi _ y=>by
  refine⟨y.1,?_⟩;have a:i<n:=by simpa [nums] using hi
  have e:x=.int (lo+i):=y.2;unfold nums;rw[Am,List.getElem?_range a,e];rfl
 stay:=fun _ _ _ _=>trivial
theorem Paired.snocP{x:α}:∀{l₁:List α}{l₂:List β},KI F l₁ l₂->F x y->KI F (l₁++[x]) (l₂++[y])
 | _,_,.nil,h=>.cons h .nil
 | _,_,.cons h₁ t,h=>.cons h₁ (Paired.snocP t h)
noncomputable def jt(D:KA)(H H':Hp):Prop:=∀b u,H b=some u->b≠D->H' b=some u
theorem Same.x(e:Same H H')(D:KA):jt D H H':=fun b u q _=>e b u q
theorem a2e(xs:List V)(p:V->Bool)(R:KA->V->V->Hp->Prop)(l:JSeq J P xs)(h0:P c)(hz:xs.length<=KF)(j:∀D x y H H',R D x y H->jt D H H'->R D x y H')(hc:∀x∈xs,∀f,Same c f->∀h:Bool->Hp->Prop,(∀g,Same f g->h (p x) g)->O (some x::j6 σ A) f h)(L:∀D,∀x∈xs,p x=true->∀f,Same c f->f D≠none->∀h:VK,(∀y g,Same f g->R D x y g->h y g)->N (some x::j6 σ A) f h)(M:∀D H' ys,c D=none->Same c H'->H' D=some (.lst ys)->KI (fun x y=>R D x y H') (xs.filter p) ys->Q (.ref D) H'):
 rf J c σ A O N Q:=by
 intro D C;have put:∀H ys,Same c H->Same c (upd H D (.lst ys)):=fun H ys e b u q=>by rw[f6 (gh q C)];exact e b u q
 refine⟨fun i m H=>i<=xs.length/\m=xs.length-i/\Same c H/\∃ys,H D=some (.lst ys)/\KI (fun x y=>R D x y H) ((xs.take i).filter p) ys,⟨xs.length,AH _,rfl,put _ _ (Same.refl _),[],g8,by simpa using Paired.nil⟩,?_⟩;rintro i m H ⟨hi,rfl,e,ys,n,hp⟩;have v:=l.stay _ _ h0 e;by_cases a:i<xs.length
 . refine .inr ⟨l.go i H v a,fun x H' r=>?_⟩;obtain⟨rfl,F⟩:=l.yld i H x H' a v r;have hm:x∈xs:=AE F;have ht:xs.take (i+1)=xs.take i++[x]:=by rw[BY,F];rfl
   have G:ys.length<=i:=by
    have S:=Ay hp;have I:=BP p (xs.take i);rw[AQ] at I
    lia
   refine hc x hm _ e _ fun g d=>?_;cases hpx:p x with
   | false =>
    rw[if_neg Ak];refine⟨xs.length-(i+1),by lia,a,rfl,e.trans d,ys,d _ _ n,?_⟩;rw[ht,Ek];simp only[ER,hpx,JD,Dw,B0,if_false];exact Paired.mapP hp fun x y z=>j _ _ _ _ _ z (d.x D)
   | true =>
    rw[if_pos rfl];refine L D x hm hpx _ (e.trans d) (by rw[d _ _ n];simp) _ fun y w s hr=>?_;have E:jt D w (upd w D (.lst (ys++[y]))):=fun b u q hb=>by rw[f6 hb];exact q
    refine⟨ys,s _ _ (d _ _ n),by lia,xs.length-(i+1),by lia,a,rfl,put _ _ (e.trans (d.trans s)),ys++[y],g8,?_⟩;rw[ht,Ek];simp only[ER,hpx,JD,if_true];exact Paired.snocP (Paired.mapP hp fun x y z=>j _ _ _ _ _ (j _ _ _ _ _ z ((d.trans s).x D)) E) (j _ _ _ _ _ hr E)
 . have o:i=xs.length:=by lia
   subst o;refine .inl ⟨l.stop _ H v (Aj _),?_⟩;rw[BK] at hp;exact M D H ys C e n hp
theorem o9:∀{l:List α}{a:List β},KI (fun x y=>y=f x) l a->a=l.map f
 | _,_,.nil=>rfl
 | _,_,.cons h t=>by rw[h,o9 t];rfl
theorem yd(xs:List V)(p:V->Bool)(f:V->V)(m:JSeq J u xs)(h0:u d)(hz:xs.length<=KF)(hc:∀x∈xs,∀a,Same d a->∀b:Bool->Hp->Prop,(∀c,Same a c->b (p x) c)->s (some x::j6 σ g) a b)(i:∀x∈xs,p x=true->∀a,Same d a->∀b:VK,(∀c,Same a c->b (f x) c)->o (some x::j6 σ g) a b)(j:∀D H',d D=none->Same d H'->H' D=some (.lst ((xs.filter p).map f))->Q (.ref D) H'):
 rf J d σ g s o Q :=
 a2e xs p (fun _ x y _=>y=f x) m h0 hz (fun _ _ _ _ _ h _=>h) hc (fun _ x l hp a e _ b q=>i x l hp a e b fun c r=>q _ c r rfl) fun D H' ys v e n hp=>j D H' v e (by rw[n,o9 hp])
theorem ad2(xs:List V)(ws:List V)(d:JSeq J C xs)(h0:C a)(hz:xs.length<=KF)(hl:ws.length=xs.length)(s:∀(i:Nat) (x y:V),xs[i]?=some x->ws[i]?=some y->∀f,Same a f->∀n:VK,(∀j,Same f j->n y j)->A (some x::j6 σ v) f n)(z:∀D H',a D=none->Same a H'->H' D=some (.lst ws)->Q (.ref D) H'):rf J a σ v tYes A Q:=by
 intro D p;have put:∀H ys,Same a H->Same a (upd H D (.lst ys)):=fun H ys e b u q=>by rw[f6 (gh q p)];exact e b u q
 refine⟨fun i m H=>i<=xs.length/\m=xs.length-i/\Same a H/\H D=some (.lst (ws.take i)),⟨xs.length,AH _,rfl,put _ _ (Same.refl _),by rw[g8,Da]⟩,?_⟩;rintro i m H ⟨hi,rfl,e,r⟩;have l:=d.stay _ _ h0 e;by_cases c:i<xs.length
 . refine .inr ⟨d.go i H l c,fun x H' h=>?_⟩;obtain⟨rfl,w⟩:=d.yld i H x H' c l h;have hw:ws[i]?=some ws[i]:=Af (by lia);unfold tYes;dsimp only;rw[if_pos rfl];refine s i x ws[i] w hw _ e _ fun j o=>?_;refine⟨ws.take i,o _ _ r,by rw[AQ];lia,xs.length-(i+1),by lia,c,rfl,put _ _ (e.trans o),?_⟩;rw[g8,BY,hw];rfl
 . have g:i=xs.length:=by lia
   subst g;refine .inl ⟨d.stop _ H l (Aj _),z D H p e ?_⟩;rw[r,Bi (by lia)]
theorem ae1{t:TA}{x:Str}{j}(hr:PA X es t):PA X (.Constant (.str x) j pos::es) (iz (tC (.str x)) t):=kd a2p hr rfl
theorem aec{t:TA}{j}(hr:PA X es t):PA X (.Constant (.int i) j pos::es) (iz (tC (.int i)) t):=kd rd hr rfl
theorem afm{t:TA}{x:Str}(h:PE X (.Name x pos) a)(hr:PA X es t):PA X (.Name x pos::es) (iz a t):=kd h hr rfl
theorem afw{t:TA}{x1}(h:PA X a t1)(hr:PA X es t):PA X (.Tuple a x1 pos::es) (iz (tTup t1) t):=kd (a7l h) hr rfl
theorem ag0{t:TA}(h:PA X a t1)(hr:PA X es t):PA X (.List a pos::es) (iz (tLst t1) t):=kd (a1k h) hr rfl
theorem aeo{t:TA}(h:PE X (.Subscript a b pos) c)(hr:PA X es t):PA X (.Subscript a b pos::es) (iz c t):=kd h hr rfl
theorem aca{t:TA}(h:PE X (.Call f as ks pos) a)(hr:PA X es t):PA X (.Call f as ks pos::es) (iz a t):=kd h hr rfl
theorem af1{t:TA}(h:PE X (.BinOp a op b pos) c)(hr:PA X es t):PA X (.BinOp a op b pos::es) (iz c t):=kd h hr rfl
structure QE(X:Cx)(e:Expr)(t:TE):Prop where
 run:PE X e t
structure QT(X:Cx)(e:Expr)(t:TT):Prop where
 run:PT X e t
structure QW(X:Cx)(e:Expr)(t:TT):Prop where
 run:PW X e t
structure QA(X:Cx)(es:List Expr)(t:TA):Prop where
 run:PA X es t
structure QS(X:Cx)(st:KN)(t:TS):Prop where
 run:PS X st t
structure QB(X:Cx)(st:List KN)(t:TS):Prop where
 run:PSs X st t
structure QI(X:Cx)(tg iter:Expr)(wi:TI):Prop where
 run:PI X tg iter wi
structure QG(X:Cx)(target:Expr)(t:TG):Prop where
 run:PG X target t
structure QO(X:Cx)(e:Option Expr)(t:TO):Prop where
 run:PO X e t
structure QTs(X:Cx)(ifs:List Expr)(t:TT):Prop where
 run:PTs X ifs t
theorem QW.qt{t:TT}(h:QW X e t):QT X e t:=⟨PW.pt h.run⟩
section
set_option relaxedAutoImplicit true
theorem iq:QB X [] a5f:=⟨a4i ⟩
theorem gc{st:KN}{rest:List KN}(b:QS X st t)(a:QB X rest u):QB X (st::rest) (tSeq t u):=⟨uu b.run a.run⟩
theorem gi{st:KN}(a:QS X st t):QB X [st] t:=⟨ug a.run⟩
theorem ij(hc:QT X c d)(ha:QB X a t)(hb:QB X b u):QS X (.If c a b pos) (tIfS d t u):=⟨abk hc.run ha.run hb.run⟩
theorem yu{x:Str}(f:X.N.Nodup)(hi:X.N[i]?=some x)(d:Loc X.env.scope x)(c:QE X e g)(hs:autoParam (Kn e (some (.Name x a)) pos.line X.env=pure false) a3_)(b:autoParam (X.fn x=true\/X.env.scope.names.lookup x=some .local) a0_):     QS X (.Assign [.Name x a] e pos) (tAsg g (gt i)):=⟨a5w f hi d c.run hs b⟩
theorem gz(a:QE X e te):QS X (.Return (some e) pos) (tRet te):=⟨zk a.run⟩
theorem a3j:QS X (.Return none pos) abn:=⟨acc ⟩
theorem ia(a:QE X e te)(hs:autoParam (Kn e none pos.line X.env=pure false) a3_):QS X (.Expr e pos) (n0 te):=⟨a4g a.run hs⟩
theorem jv(hp:PassesOwn (KE X.prog X.w) X.A X.env X.xe)(hc:X.calm=true)(hi:QI X tg a c)(d:QG X tg g)(hb:QB X body b)(hs:autoParam (∀x,KM a X.env x=pure x) a2_):QS X (.For tg a body [] pos) (tFor c g b):=⟨a7k hp hc hi.run d.run hb.run hs⟩
theorem pq(b:QE X e f)(d:QG X a g)(hs:autoParam (swapsWithSole [a] e pos.line X.env=pure false) a3_)(hw:autoParam (swappedStores [a] e X.env=pure none) a3_)(c:autoParam ((KJ [a] X.env).map (·.2)=[assign a X.env]) a3_):QS X (.Assign [a] e pos) (tAsg f g):=⟨ae8 b.run d.run hs hw c⟩
theorem ou(hp:PassesOwn (KE X.prog X.w) X.A X.env X.xe)(hc:QT X c b)(hb:QB X body a):QS X (.While c body [] pos) (ui b a):=⟨aao hp hc.run hb.run⟩
theorem dn{i j pos}:QE X (.Constant (.int i) j pos) (tC (.int i)):=⟨rd ⟩
theorem xb{b j pos}:QE X (.Constant (.bool b) j pos) (tC (.bl b)):=⟨abc ⟩
theorem qd{j pos}:QE X (.Constant .none j pos) (tC .non):=⟨ady ⟩
theorem i7{x j pos}:QE X (.Constant (.str x) j pos) (tC (.str x)):=⟨a2p ⟩
theorem qv(i:Nat){x:Str}(a:autoParam (X.N[i]?=some x) a3_)(b:autoParam (Vis X.env.scope x) a5_)(hd:autoParam ((x==("__debug__":Str))=false) a1_)(hcd:autoParam ((x==("__classdict__":Str))=false) a1_):QE X (.Name x pos) (tVar i):=⟨pv i a b hd hcd⟩
theorem qe_g{x:Str}(h:Glob X.mg x v)(a:autoParam (Gl X x) a3_)(hd:autoParam ((x==("__debug__":Str))=false) a1_):QE X (.Name x pos) (tC v):=⟨pe_g h a hd⟩
theorem gp(c:OpR X (Ki op) r)(ha:QE X a ta)(hb:QE X b tb):QE X (.BinOp a op b pos) (tOp r ta tb):=⟨abe c ha.run hb.run⟩
theorem nj(c:OpR X (KL op) r)(ha:QE X a ta)(hb:QE X b tb)(hm:Kk op b=false):QE X (.Compare a [op] [b] pos) (tOp r ta tb):=⟨wp c ha.run hb.run hm⟩
theorem tm(c:OpR X (KL op) r)(ha:QE X a ta)(hb:QE X b tb)(hm:Kk op b=false):QT X (.Compare a [op] [b] pos) (t9 (tOp r ta tb)):=⟨ue c ha.run hb.run hm⟩
theorem a2z{t:TE}(h:QE X e t)(b:autoParam (∀a,isTrue e X.env a=(do let v<-a;standAt e.pos;holding [v] (truthy v))) a2_):QT X e (tB t):=⟨afb h.run b⟩
theorem ny(ha:QT X a tA):QW X (.BoolOp .And [a] pos) tA:=⟨adc ha.run⟩
theorem a1x(ha:QT X a tA):QW X (.BoolOp .Or [a] pos) tA:=⟨a81 ha.run⟩
theorem q3{rest:List Expr}(ha:QT X a tA)(hb:QW X (.BoolOp .And (b::rest) pos) tB'):QW X (.BoolOp .And (a::b::rest) pos) (tAnd tA tB'):=⟨af2 ha.run hb.run⟩
theorem a4p{rest:List Expr}(ha:QT X a tA)(hb:QW X (.BoolOp .Or (b::rest) pos) tB'):QW X (.BoolOp .Or (a::b::rest) pos) (tOr tA tB'):=⟨a56 ha.run hb.run⟩
theorem ng(hc:QT X c tA)(ha:QE X a ta)(hb:QE X b tb):QE X (.IfExp c a b pos) (tIf tA ta tb):=⟨a9b hc.run ha.run hb.run⟩
theorem mq(hr:IxR X r)(ha:QE X a ta)(hb:QE X b tb)(hs:qu b):QE X (.Subscript a b pos) (tOp r ta tb):=⟨a19 hr ha.run hb.run hs⟩
theorem ja{lo:Option Expr}(hr:SlR X r)(a:QE X e te)(hl:QO X lo tl)(b:QO X hi th):QE X (.Subscript e (.Slice lo hi none p2) pos) (tSl r te tl th):=⟨a21 hr a.run hl.run b.run⟩
theorem jp:QO X none a07:=⟨a3k ⟩
theorem j8(h:QE X e te):QO X (some e) (a5d te):=⟨a3n h.run⟩
theorem j5{x1}(h:QA X es t):QE X (.Tuple es x1 pos) (tTup t):=⟨a7l h.run⟩
theorem i9(h:QA X es t):QE X (.List es pos) (tLst t):=⟨a1k h.run⟩
theorem ac5(F:FnOk X.prog X.w X.K X.mg X.base CX k f fd ps sp)(hr:Room k X.A)(g:Gl X x)(hm:X.mg x=some (.ref f))(h:Cs X.K (.ref f)=true)(hb:Binds X.K fd ps ds)(hd:Vals dvs ds)(d:ml CX X E)(ha:QA X (e::es) t)(a:autoParam ((x==("__debug__":Str))=false) a1_)(c:autoParam (KD (e::es) X.env=(false,eval e X.env)::KD es X.env) a3_)(b:autoParam ((KP pos (KD es X.env)).any (·.1)=false) a3_):     QE X (.Call (.Name x p) (e::es) [] pos) (zt sp dvs E t):=⟨ade F hr g hm h hb hd d ha.run a c b⟩
theorem lx{id:String}(hc:ku X (.builtin id) r)(d:Gl X x)(hm:X.mg x=none)(f:bootBuiltins x=some (.builtin id))(ha:QA X (e::es) t)(hn:autoParam (x≠"__name__") a1_)(a:autoParam ((x==("__debug__":Str))=false) a1_)(c:autoParam (KD (e::es) X.env=(false,eval e X.env)::KD es X.env) a3_)(b:autoParam ((KP pos (KD es X.env)).any (·.1)=false) a3_):QE X (.Call (.Name x p) (e::es) [] pos) (tCB r t):=⟨uk hc d hm f ha.run hn a c b⟩
theorem ii(hc:ku X (.type T) r)(d:Gl X x)(hm:X.mg x=none)(f:bootBuiltins x=some (.type T))(ha:QA X (e::es) t)(hn:autoParam (x≠"__name__") a1_)(a:autoParam ((x==("__debug__":Str))=false) a1_)(c:autoParam (KD (e::es) X.env=(false,eval e X.env)::KD es X.env) a3_)(b:autoParam ((KP pos (KD es X.env)).any (·.1)=false) a3_):QE X (.Call (.Name x p) (e::es) [] pos) (tCB r t):=⟨a0o hc d hm f ha.run hn a c b⟩
theorem o8{id:String}(d:PlainAttrs T)(slot:Slot T name id)(c:typeOf (.builtin id)=pure (.type "method_descriptor"))(hm:MtR X id r)(e:QE X o to)(b:autoParam (KQ o name X.env (eval o X.env)=eval o X.env) a3_)(a:autoParam ((apos.endLine==cpos.line)=true) a3_):QE X (.Call (.Attribute o name apos) [] [] cpos) (tBM0 X.K T r to):=⟨aeg d slot c hm e.run b a⟩
theorem qw{x:Str}(hi:QI X (.Name x px) c p)(l:∀s H C ex,QTs (blk X [x] s H b [] C ex) h r)(n:∀s H C ex,QE (blk X [x] s H b [] C ex) g q)(hc:autoParam (X.calm=true) a3_)(f:autoParam (b.kind=.function) a3_)(o:autoParam (b.names.lookup x=some .local) a1_)(d:autoParam (∀y∈b.names,y.2≠.free) a1_)(e:autoParam (∀y∈b.names,y.2≠.cell) a1_)(a:autoParam (∀y∈b.names,y.2=.local->b.names.lookup y.1=some .local) a1_)(hs:autoParam (∀x,KM c X.env x=pure x) a2_):     QE X (.ListComp g [⟨.Name x px,c,h,0⟩] b pos) (uo [] p r q):=⟨xy hi.run (fun z0 i m j=>(l z0 i m j).run) (fun z0 i m j=>(n z0 i m j).run) hc f o d e a hs⟩
theorem acd(f:QE X o to)(ha:QA X [e] t)(c:autoParam (KQ o "get" X.env (eval o X.env)=eval o X.env) a3_)(d:autoParam (((KP cpos (KD [e] X.env)).all (fun x => !x.1) && (Kj cpos (KO [] X.env)).all (fun x=>x.1.isSome)       && decide ([e].length+([]:List Keyword).length+(if ([]:List Keyword).isEmpty then 0 else 1)<30))=true) a3_)(b:autoParam ((apos.endLine==cpos.line)=true) a3_)(hs:autoParam (KD [e] X.env=(false,eval e X.env)::KD [] X.env) a3_)(a:autoParam ((KP cpos (KD [] X.env)).any (·.1)=false) a3_):     QE X (.Call (.Attribute o "get" apos) [e] [] cpos) (abb X to t):=⟨acz f.run ha.run c d b hs a⟩
theorem me(hl:QE X l tl):QI X tg l (a5l X.K tl):=⟨a4e hl.run⟩
theorem aee(hl:QE X l tl):QI X tg l (iTup X.K tl):=⟨a6z hl.run⟩
theorem kj(b:Gl X "range")(hm:X.mg "range"=none)(ha:QA X [a] c)(hs:autoParam (KD [a] X.env=[(false,eval a X.env)]) a3_):QI X tg (.Call (.Name "range" p) [a] [] pos) (abu c):=⟨a66 b hm ha.run hs⟩
theorem a7a(d:Gl X "range")(hm:X.mg "range"=none)(ha:QA X [a,b] e)(hs:autoParam (KD [a,b] X.env=[(false,eval a X.env),(false,eval b X.env)]) a3_)(c:autoParam (KD [b] X.env=[(false,eval b X.env)]) a3_):     QI X tg (.Call (.Name "range" p) [a,b] [] pos) (abi e):=⟨a8r d hm ha.run hs c⟩
theorem adj{x:Str}(a:X.N.Nodup)(hi:X.N[i]?=some x)(c:Loc X.env.scope x)(b:autoParam (X.fn x=true\/X.env.scope.names.lookup x=some .local) a0_):QG X (.Name x pos) (gt i):=⟨xh a hi c b⟩
theorem ad:QA X [] tNil:=⟨q5 ⟩
theorem jk(ha:QE X e te)(hr:QA X es t)(hs:autoParam (KD (e::es) X.env=(false,eval e X.env)::KD es X.env) a3_):QA X (e::es) (iz te t):=⟨kd ha.run hr.run hs⟩
theorem ie{j}(hr:QA X es t):QA X (.Constant (.str x) j pos::es) (iz (tC (.str x)) t):=⟨ae1 hr.run⟩
theorem i0{j}(hr:QA X es t):QA X (.Constant (.int i) j pos::es) (iz (tC (.int i)) t):=⟨aec hr.run⟩
theorem gj(h:QE X (.Name x pos) te)(hr:QA X es t):QA X (.Name x pos::es) (iz te t):=⟨afm h.run hr.run⟩
theorem og{x1}(h:QA X es1 t1)(hr:QA X es t):QA X (.Tuple es1 x1 pos::es) (iz (tTup t1) t):=⟨afw h.run hr.run⟩
theorem my(h:QA X es1 t1)(hr:QA X es t):QA X (.List es1 pos::es) (iz (tLst t1) t):=⟨ag0 h.run hr.run⟩
theorem gq(h:QE X (.Subscript a b pos) te)(hr:QA X es t):QA X (.Subscript a b pos::es) (iz te t):=⟨aeo h.run hr.run⟩
theorem gw(h:QE X (.Call f as ks pos) te)(hr:QA X es t):QA X (.Call f as ks pos::es) (iz te t):=⟨aca h.run hr.run⟩
theorem jb(h:QE X (.BinOp a op b pos) te)(hr:QA X es t):QA X (.BinOp a op b pos::es) (iz te t):=⟨af1 h.run hr.run⟩
theorem mn:QTs X [] tYes:=⟨a3r ⟩
theorem a02{t:TT}(h:QT X c t):QTs X [c] t:=⟨a46 h.run⟩
end
theorem yy{t:TSet}(c:QE X o to)(hi:QE X i d)(hs:PSet X t)(ha:autoParam (∀v,assign (.Subscript o i pos) X.env v=(do
 let a<-holding [v] (eval o X.env);let b<-holding [v,a] (eval i X.env)
 standAt pos
 holding [v,a,b] (setItem a b v)
 release [v,a,b] [])) a2_):QG X (.Subscript o i pos) (gSub to d t):=⟨aef c.run hi.run hs ha⟩
theorem Fun.okQ{K:Ab}{x:Str}{st:KN}{k:Nat}(F:Fun K x b st f fd)(S:FnScope N ps (iw st))(len:∀vs H Q E,sp vs H Q E->vs.length=ps.length)(c:∀(a:KB) (A:Kq) (outer:List Env) (s:KG) (H:Hp) (vs:List V) (Q:VK) (E:XK),Room k (A.deeper (envOfC b (iw st) s.heap.objs.size f a))->sp vs H Q E->
 ∃t,QB (cxOf CX0 P w K mg base N b (iw st) f a A outer s H E).nox (lj st) t/\t {nx:=fun _ H'=>Q .non H',rt:=Q} (start N vs) H):FnOk P w K mg base CX0 (k+1) f fd ps sp :=
 F.ok S len fun a A outer s H vs Q E hr h=>by
  obtain⟨t,e,d⟩:=c a A outer s H vs Q E hr h;exact⟨t,e.run,d⟩
theorem gu(i:Nat)(hN:X.N.Nodup)(he:QE X e te)(hi:autoParam (X.N[i]?=some x) a3_)(hx:autoParam (Loc X.env.scope x) a6_)(hs:autoParam (Kn e (some (.Name x pos')) pos.line X.env=pure false) a3_)(hf:autoParam (X.fn x=true\/X.env.scope.names.lookup x=some .local) a0_):QS X (.Assign [.Name x pos'] e pos) (tAsg te (gt i)):=yu hN hi hx he hs hf
theorem jd(i:Nat)(hN:X.N.Nodup)(hi:autoParam (X.N[i]?=some x) a3_)(hx:autoParam (Loc X.env.scope x) a6_)(hf:autoParam (X.fn x=true\/X.env.scope.names.lookup x=some .local) a0_):QG X (.Name x pos) (gt i):=adj hN hi hx hf
theorem gx(K:Ab)(ha:QE X a ta)(hb:QE X b tb)(hK:autoParam (X.K=K) a3_)(hs:autoParam (qu b) a7_):QE X (.Subscript a b pos) (tOp (rIxT K) ta tb):=by subst hK;exact mq vc ha hb hs
theorem gy(K:Ab)(ha:QE X a ta)(hb:QE X b tb)(hK:autoParam (X.K=K) a3_)(hs:autoParam (qu b) a7_):QE X (.Subscript a b pos) (tOp (rIxL K) ta tb):=by subst hK;exact mq wz ha hb hs
theorem Fun.okA{P:KZ}{w:KY}{K:Ab}{mg:Str->Option KB}{base:KU}{x qual:Str}{st:KN}{f:KA}{fd:Kr}{ps:List Str}{k:Nat}{sp:Sp}(F:Fun K x qual st f fd)(N:List Str)(hbody:∀(cdv:KB) (A:Kq) (outer:List Env) (s:KG) (H:Hp) (vs:List V) (Q:VK) (E:XK),Room k (A.deeper (envOfC qual (iw st) s.heap.objs.size f cdv))->sp vs H Q E->N.Nodup->
 ∃t,QB (cxOf CX0 P w K mg base N qual (iw st) f cdv A outer s H E).nox (lj st) t/\t {nx:=fun _ H'=>Q .non H',rt:=Q} (start N vs) H)(S:autoParam (FnScope N ps (iw st)) a8_)(len:∀vs H Q E,sp vs H Q E->vs.length=ps.length:=by
 intro _ _ _ _ h
 first
  | (cases h<;>subst_vars<;>rfl)
  | (repeat' obtain⟨_,h⟩:=h
     subst_vars;rfl)):FnOk P w K mg base CX0 (k+1) f fd ps sp :=
 F.okQ S len fun cdv A outer s H vs Q E hr h=>hbody cdv A outer s H vs Q E hr h S.nd
theorem gs{H:Hp}{a:KA}(h:H a=none)(o:HO):∃H':Hp,upd H a o=H'/\Same H H'/\H' a=some o:=⟨_,rfl,gk h o,g8⟩
section
noncomputable def valV[DecidableEq κ](kvs:List (κ×V))(k:κ):Option V:=(kvs.find? fun kv=>decide (kv.1=k)).map (·.2)
noncomputable def putK[DecidableEq κ](kvs:List (κ×V))(k:κ)(v:V):List (κ×V) :=
 if (kvs.any fun kv=>decide (kv.1=k))=true then kvs.map (fun kv=>if kv.1=k then (kv.1,v) else kv) else kvs++[(k,v)]
noncomputable def sx[DecidableEq κ](kvs:List (κ×V))(k:κ):List (κ×V):=kvs.filter fun kv=>decide (kv.1≠k)
theorem qx{κ:Type}[DecidableEq κ]{p:κ×V}{r:List (κ×V)}{k:κ}(e:p.1=k):valV (p::r) k=some p.2:=by simp[valV,BJ,e]
theorem v8{κ:Type}[DecidableEq κ]{p:κ×V}{r:List (κ×V)}{k:κ}(e:¬ p.1=k):valV (p::r) k=valV r k:=by simp[valV,BJ,e]
variable{κ:Type}[DecidableEq κ] in
theorem xz(k:κ):∀kvs:List (κ×V),(kvs.any fun kv=>decide (kv.1=k))=(valV kvs k).isSome:=by grind [valV]
variable{κ:Type}[DecidableEq κ] in
variable{κ:Type}[DecidableEq κ] in
theorem pf{κ:Type}[DecidableEq κ](kvs:List (κ×V))(k:κ)(v:V):(putK kvs k v).length<=kvs.length+1:=by grind [putK]
theorem a9h{κ:Type}[DecidableEq κ]{kvs:List (κ×V)}{k:κ}(v:V)(h:valV kvs k=none):putK kvs k v=kvs++[(k,v)]:=by grind [putK,xz]
theorem RelO.isSome_eq(r:RelO o u):o.isSome=u.isSome:=by
 cases o with
 | none=>cases u with
  | none=>rfl
  | some _=>exact (show False from r).elim
 | some _=>cases u with
  | none=>exact (show False from r).elim
  | some _=>rfl
theorem RelO.getD(r:RelO o u)(a:RelV d d'):RelV (o.getD d) (u.getD d'):=by
 cases o with
 | none=>cases u with
  | none=>exact a
  | some _=>exact (show False from r).elim
 | some _=>cases u with
  | none=>exact (show False from r).elim
  | some _=>exact r
theorem KV.val{κ:Type}[DecidableEq κ]{kvs:List (κ×V)}{vs:List (κ×KB)}(r:KV kvs vs)(k:κ):RelO (valV kvs k) (valueAt vs k):=by
 unfold KV at r;induction r with
 | nil=>exact True.intro
 | @cons p q ps qs h t ih =>
  obtain⟨c,d⟩:=h;by_cases e:p.1=k
  . have a:q.1=k:=c.symm.trans e;have b:valueAt (q::qs) k=some q.2:=by simp[valueAt,BJ,a]
    rw[qx e,b];exact d
  . have a:¬ q.1=k:=fun z=>e (c.trans z);have b:valueAt (q::qs) k=valueAt qs k:=by simp[valueAt,BJ,a]
    rw[v8 e,b];exact ih
theorem KV.any{κ:Type}[DecidableEq κ]{kvs:List (κ×V)}{vs:List (κ×KB)}(r:KV kvs vs)(k:κ):(kvs.any fun kv=>decide (kv.1=k))=vs.any fun kv=>decide (kv.1=k):=by
 unfold KV at r;induction r with
 | nil=>rfl
 | cons h t ih=>rw[Ds,Ds,ih,h.1]
theorem KV.repl{κ:Type}[DecidableEq κ]{kvs:List (κ×V)}{vs:List (κ×KB)}(r:KV kvs vs)(k:κ){y:V}{u:KB}(c:RelV y u):
 KV (kvs.map fun kv=>if kv.1=k then (kv.1,y) else kv) (vs.map fun kv=>if kv.1=k then (kv.1,u) else kv):=by
 unfold KV at r |-;induction r with
 | nil=>exact .nil
 | @cons p q ps qs h t ih =>
  rw[As,As];refine .cons ?_ ih;obtain⟨a,b⟩:=h;by_cases e:p.1=k
  . rw[if_pos e,if_pos (a.symm.trans e)];exact⟨a,c⟩
  . rw[if_neg e,if_neg (fun z=>e (a.trans z))];exact⟨a,b⟩
theorem KV.put{κ:Type}[DecidableEq κ]{kvs:List (κ×V)}{vs:List (κ×KB)}(r:KV kvs vs)(k:κ){y:V}{u:KB}(a:RelV y u):KV (putK kvs k y) (stored vs k u):=by
 unfold putK stored;rw[r.any k];by_cases e:(vs.any fun kv=>decide (kv.1=k))=true
 . rw[if_pos e,if_pos e];exact r.repl k a
 . rw[if_neg e,if_neg e];exact Ke r ⟨rfl,a⟩
theorem KV.drop{κ:Type}[DecidableEq κ]{kvs:List (κ×V)}{vs:List (κ×KB)}(r:KV kvs vs)(k:κ):KV (sx kvs k) (without vs k):=by
 unfold KV at r |-;unfold sx without;induction r with
 | nil=>exact .nil
 | @cons p q ps qs h t ih =>
  obtain⟨c,d⟩:=h;rw[ER,ER];by_cases e:p.1=k
  . have a:¬ decide (p.1≠k)=true:=by simp[e]
    have b:¬ decide (q.1≠k)=true:=by simp[c.symm.trans e]
    rw[if_neg a,if_neg b];exact ih
  . have f:¬ q.1=k:=fun z=>e (c.trans z);have a:decide (p.1≠k)=true:=by simp[e]
    have b:decide (q.1≠k)=true:=by simp[f]
    rw[if_pos a,if_pos b];exact .cons ⟨c,d⟩ ih
theorem KV.keys{κ:Type}[DecidableEq κ]{kvs:List (κ×V)}{vs:List (κ×KB)}(r:KV kvs vs):kvs.map (·.1)=vs.map (·.1):=by
 unfold KV at r;induction r with
 | nil=>rfl
 | cons h t ih=>rw[As,As,ih,h.1]
theorem KV.length{κ:Type}[DecidableEq κ]{kvs:List (κ×V)}{vs:List (κ×KB)}(r:KV kvs vs):kvs.length=vs.length:=Ay r
theorem a9e{κ:Type}[DecidableEq κ](kvs:List (κ×V))(k:κ):(sx kvs k).length<=kvs.length:=BP _ _
end
theorem sy{k:Key}(r:RelV (kV k) u):(jj P w).is k u=true:=by
 cases k with
 | inl i=>obtain⟨t,e⟩:=(show ∃t,u=Value.int i t from r);subst e;exact a39 P w i t
 | inr x=>obtain⟨t,e⟩:=(show ∃t,u=Value.str x t from r);subst e;exact a38 P w x t
theorem a0d:∀{ks:List Key}{us:List KB},Vals (ks.map kV) us->ItemsAre (jj P w) ks us
 | [],_,r=>by rw[JU] at r;cases r;exact .nil
 | k::ks,_,r=>by
  rw[As] at r;cases r with
  | cons h t=>exact .cons (sy h) (a0d t)
abbrev KT(H:Hp):List (List Key×V)->List (List Key×KA×KB)->Prop:=KI fun p q=>p.1=q.1/\H q.2.1=some (.tup (p.1.map kV))/\RelV p.2 q.2.2
theorem KT.val(r:KT H kvs xs)(k:List Key):RelO (valV kvs k) ((atKey xs k).map (·.2)):=by
 induction r with
 | nil=>exact True.intro
 | @cons p q ps qs h t ih =>
  obtain⟨c,_,d⟩:=h;by_cases e:p.1=k
  . have a:q.1=k:=c.symm.trans e;have b:atKey (q::qs) k=some q.2:=by simp[atKey,BJ,a]
    rw[qx e,b];exact d
  . have a:¬ q.1=k:=fun z=>e (c.trans z);have b:atKey (q::qs) k=atKey qs k:=by simp[atKey,BJ,a]
    rw[v8 e,b];exact ih
theorem KT.repl(r:KT H kvs xs)(k:List Key)(d:RelV y u):
 KT H (kvs.map fun kv=>if kv.1=k then (kv.1,y) else kv) (xs.map (putAt k u)):=by
 induction r with
 | nil=>exact .nil
 | @cons p q ps qs h t ih =>
  rw[As,As];refine .cons ?_ ih;obtain⟨a,b,c⟩:=h;unfold putAt;by_cases e:p.1=k
  . rw[if_pos e,if_pos (a.symm.trans e)];exact⟨a,b,d⟩
  . rw[if_neg e,if_neg (fun z=>e (a.trans z))];exact⟨a,b,c⟩
theorem KT.put(r:KT H kvs xs)(k:List Key)(hb:H b=some (.tup (k.map kV)))(a:RelV y u):
 KT H (putK kvs k y) (storedH xs k b u):=by
 have e:(kvs.any fun kv=>decide (kv.1=k))=(atKey xs k).isSome:=by
  rw[xz,(r.val k).isSome_eq,Jh]
 unfold putK storedH;rw[e];by_cases q:(atKey xs k).isSome=true
 . rw[if_pos q,if_pos q];exact r.repl k a
 . rw[if_neg q,if_neg q];exact Ke r ⟨rfl,hb,a⟩
theorem KT.keeps(r:KT H kvs xs)(ht:∀b ys,H b=some (.tup ys)->H' b=some (.tup ys)):KT H' kvs xs :=
 Paired.mapP r fun _ _ z=>⟨z.1,ht _ _ z.2.1,z.2.2⟩
theorem aba(ok:HOk P w H h)(e:Rd H a u):ObjOk P w H h a u:=e.ok ok
theorem oy(ok:HOk P w H h)(e:Rd H a (.dK kvs)):kvs.length<=KF/\(a==KW)=false/\∃vs,KV kvs vs/\h.DictOf (jj P w) a vs :=
 show ObjOk P w H h a (.dK kvs) from aba ok e
theorem wu(ok:HOk P w H h)(e:H a=some (.dK kvs)):kvs.length<=KF/\(a==KW)=false/\∃vs,KV kvs vs/\h.DictOf (jj P w) a vs:=oy ok (.inl e)
theorem vn(ok:HOk P w H h)(e:H a=some (.tup (ks.map kV))):(tupleKind (jj P w)).is h ks a:=by
 obtain⟨_,its,r,o,d,b,n,c⟩:=(show ObjOk P w H h a (.tup (ks.map kV)) from ok a _ e)
 exact⟨o,its.toArray,n,d,b,c,by simpa using a0d r⟩
theorem wh(ok:HOk P w H h)(e:Rd H a (.dT kvs)):kvs.length<=KF/\(a==KW)=false/\
 ∃xs,KT H kvs xs/\h.DictOfH (tupleKind (jj P w)) a xs:=by
 obtain⟨z,y,xs,r,o,es,ep,g,c,f,i,d⟩:=(show ObjOk P w H h a (.dT kvs) from aba ok e)
 refine⟨z,y,xs,r,o,es,ep,g,c,f,i,fun x b=>?_,d⟩;have all:∀{l:List (List Key×V)} {m:List (List Key×KA×KB)},KT H l m->∀x∈m,(tupleKind (jj P w)).is h x.1 x.2.1:=by
  intro l m q;induction q with
  | nil=>intro x b;exact nomatch b
  | @cons p q ps qs hq t ih =>
   intro x b;rcases Ah.mp b with e|b
   . subst e;exact vn ok (by rw[<- hq.1];exact hq.2.1)
   . exact ih x b
 exact all r x b
theorem afq(ok:HOk P w H h)(e:H a=some (.dT kvs)):kvs.length<=KF/\(a==KW)=false/\
 ∃xs,KT H kvs xs/\h.DictOfH (tupleKind (jj P w)) a xs:=wh ok (.inl e)
noncomputable def DGet(H:Hp)(a:KA)(y:V)(r:Option V):Prop :=
 (∃kvs k,Rd H a (.dK kvs)/\y=kV k/\r=valV kvs k)\/∃kvs k b,Rd H a (.dT kvs)/\y=.ref b/\H b=some (.tup (k.map kV))/\r=valV kvs k
noncomputable def DPut(H:Hp)(a:KA)(y v:V)(H':Hp):Prop :=
 (∃kvs k,H a=some (.dK kvs)/\y=kV k/\kvs.length<KF/\H'=upd H a (.dK (putK kvs k v)))\/
 ∃kvs k b,H a=some (.dT kvs)/\y=.ref b/\H b=some (.tup (k.map kV))/\kvs.length<KF/\H'=upd H a (.dT (putK kvs k v))
theorem DGet.k{k:Key}(e:H a=some (.dK kvs)):DGet H a (kV k) (valV kvs k):=.inl ⟨kvs,k,.inl e,rfl,rfl⟩
theorem DPut.k{k:Key}(e:H a=some (.dK kvs))(hl:kvs.length<KF):DPut H a (kV k) v (upd H a (.dK (putK kvs k v))):=.inl ⟨kvs,k,e,rfl,hl,rfl⟩
theorem Inv.big(I:Inv X a σ H s):KW<s.heap.objs.size:=by
 have h:KH<s.heap.objs.size:=(I.mod.glob.keeps I.bk).lt;exact Nat.lt_trans (by decide) h
theorem a73(q:A.units+1<cLine)(I:Inv X f σ H s)(g:DGet H a y (some v))(m:RelV y u)(h:∀d s',Inv X f σ H s'->RelV v d->Q d s'):
 KC (KE X.prog X.w) A (getItem (.ref a) u) Q E s:=by
 rcases g with⟨kvs,k,e,i,l⟩|⟨kvs,k,b,e,i,n,l⟩
 . subst i;obtain⟨z,hd,vs,rel,dd⟩:=oy I.hok e;obtain⟨d,hw,c⟩:=RelO.some_of (v:=v) (o:=valueAt vs k) (by rw[l];exact rel.val k);exact Js (sy m) dd.mapOf hw (h d _ (I.tok _) c)
 . subst i;cases (show u=Value.ref b from m);obtain⟨z,hd,xs,rel,dd⟩:=wh I.hok e;obtain⟨d,hw,c⟩:=RelO.some_of (v:=v) (o:=(atKey xs k).map (·.2)) (by rw[l];exact rel.val k);obtain⟨p,hp,j⟩:=AZ.mp hw;refine wpAny_getItem_heap (El q) (vn I.hok n) dd hp ?_;rw[j];exact h d _ (I.tok _) c
theorem abx(j:A.units+1<cLine)(I:Inv X c σ H s)(g:DGet H a y o)(f:RelV y u)(h:∀s',Inv X c σ H s'->Q (.bool (!o.isSome)) s'):
 KC (KE X.prog X.w) A (KL .NotIn u (.ref a)) Q E s:=by
 rcases g with⟨kvs,k,e,d,l⟩|⟨kvs,k,b,e,d,i,l⟩
 . subst d;obtain⟨z,hd,vs,rel,dd⟩:=oy I.hok e;refine wpAny_notIn_of (sy f) hd dd.mapOf ?_;rw[<- (rel.val k).isSome_eq,<- l];exact h _ (I.tok _)
 . subst d;cases (show u=Value.ref b from f);obtain⟨z,hd,xs,rel,dd⟩:=wh I.hok e;refine wpAny_notIn_heap (El j) (vn I.hok i) hd dd ?_;have q:=(rel.val k).isSome_eq;rw[Jh] at q;rw[<- q,<- l];exact h _ (I.tok _)
theorem qq(I:Inv X c σ H s)(f:Mut (H a))(hs:Cn a s.heap h')(d:∃q,h'.get? a=some q)(new:ObjOk X.prog X.w (upd H a ob) h' a ob):
 Inv X c σ (upd H a ob) {s with heap:=h',toks:=t'} :=
 I.write (x:=a) (e:=a) f (.inl rfl) (fun b q hb z=>(hs.2 b hb).trans z) d new
theorem tz(z:kvs.length<=KF)(hd:(a==KW)=false)(rel:KV kvs vs)(dd:h'.DictOf (jj P w) a vs):
 ObjOk P w H' h' a (.dK kvs):=⟨z,hd,vs,rel,dd⟩
theorem a85(J:A.units+1<cLine)(I:Inv X f σ H s)(g:DPut H a y v H')(m:RelV y u)(n:RelV v r)(h:∀s',Inv X f σ H' s'->Q () s'):
 KC (KE X.prog X.w) A (setItem (.ref a) u r) Q E s:=by
 rcases g with⟨kvs,k,e,i,l,j⟩|⟨kvs,k,b,e,i,o,l,j⟩
 . subst i j;obtain⟨z,hd,vs,rel,dd⟩:=wu I.hok e;have hz:vs.length<=KF:=by rw[<- rel.length];exact z
   have hl:(putK kvs k v).length<=KF:=by have:=pf kvs k v;lia
   refine wpAny_setItem_pairs (hsz:=hz) (sy m) dd fun h' d hs=>h _ ?_;have F:∃q,h'.get? a=some q:=let ⟨q,_,_,hq,_⟩:=d;⟨q,hq⟩;exact qq I (by rw[e];exact True.intro) hs F (tz hl hd (rel.put k n) d)
 . subst i j;cases (show u=Value.ref b from m);obtain⟨z,hd,xs,rel,dd⟩:=afq I.hok e;have hz:xs.length<=KF:=by rw[<- Ay rel];exact z
   have hl:(putK kvs k v).length<=KF:=by have:=pf kvs k v;lia
   refine wpAny_setItem_heap (hsz:=hz) (El J) (vn I.hok o) dd fun h' d hs=>h _ ?_;obtain⟨q,es,ep,hq,C,G,L,_,D⟩:=d;refine qq I (by rw[e];exact True.intro) hs ⟨q,hq⟩ ⟨hl,hd,_,(rel.put k o n).keeps fun c ys p=>?_,q,es,ep,hq,C,G,L,D⟩;rw[f6 (afo p e (fun z=>nomatch z))];exact p
theorem ag3{k:Key}(I:Inv X c σ H s)(e:H a=some (.dK kvs))(g:RelV (kV k) u)(l:valV kvs k=some v)(hm:more=[]\/∃x,more=[x])(h:∀b s',Inv X c σ (upd H a (.dK (sx kvs k))) s'->RelV v b->Q b s'):KC (KE X.prog X.w) A (call (.builtin "dict.pop") (.ref a::u::more)) Q E s:=by
 obtain⟨z,hd,vs,rel,dd⟩:=wu I.hok e;obtain⟨b,hw,f⟩:=RelO.some_of (v:=v) (o:=valueAt vs k) (by rw[<- l];exact rel.val k);have hp:(keyPart u).isSome=true:=by
  cases k with
  | inl i=>obtain⟨t,q⟩:=(show ∃t,u=Value.int i t from g);subst q;rfl
  | inr x=>obtain⟨t,q⟩:=(show ∃t,u=Value.str x t from g);subst q;rfl
 have ha:argsOk "dict.pop" ⟨.ref a::u::more,[]⟩:=by
  rcases hm with q|⟨x,q⟩
  . subst q;exact PySem.F.args_dict_pop_2 _ _
  . subst q;exact PySem.F.args_dict_pop_3 _ _ _
 refine DL HW dd.typeIs PySem.F.entry_dict_pop ha (meets_dict_pop_there (jj X.prog X.w) a (sy g) more hm hp)
  ⟨vs,b,dd,by rw[<- rel.length];exact z,hw,fun h' d hs=>h b _ ?_ f⟩
 have j:∃q,h'.get? a=some q:=let ⟨q,_,_,hq,_⟩:=d;⟨q,hq⟩;exact qq I (by rw[e];exact True.intro) hs j (tz (Aw (a9e kvs k) z) hd (rel.drop k) d)
theorem adq(I:Inv X c σ H s)(e:H a=some (.dK kvs))(h:∀s',Inv X c σ (upd H a (.dK [])) s'->Q .none s'):KC (KE X.prog X.w) A (call (.builtin "dict.clear") [.ref a]) Q E s:=by
 obtain⟨z,hd,vs,rel,dd⟩:=wu I.hok e;refine DL C9 dd.typeIs PySem.F.entry_dict_clear (PySem.F.args_dict_clear_1 _) (meets_dict_clear (jj X.prog X.w) a) ⟨vs,dd,by rw[<- rel.length];exact z,fun h' b hs=>h _ ?_⟩;have d:∃q,h'.get? a=some q:=let ⟨q,_,_,hq,_⟩:=b;⟨q,hq⟩;exact qq (t':=s.toks) I (by rw[e];exact True.intro) hs d (tz (AH _) hd .nil b)
noncomputable def NoSl(i:Expr):Prop:=∀ov iv,subscripted i false ov iv=operate [ov,iv] (getItem ov iv)
theorem a3z{id:String}(hl:typeLookup (.type T) "__getitem__"=pure (some (.builtin id)))(hs:NoSl a)(h:KC (KE prog w) A (eval value env) (fun o d=>KC (KE prog w) A (eval a env) (fun i b=>b.TypeIs o T/\KC (KE prog w) A (getItem o i) Q E b) E d) E s):
 KC (KE prog w) A (eval (.Subscript value a pos) env) Q E s:=by
 refine Subscript_ (BM h (fun o d j=>BM j (fun i b c=>?_) fun _ _ x=>x) fun _ _ x=>x);obtain⟨f,c⟩:=c;unfold subscriptTail;refine Aa ?_;rw[getitemInPython_of_ne f.not_modules];refine Aa (Hj f hl ?_);have fin:KC (KE prog w) A (subscripted a false o i) (fun r e=>KC (KE prog w) A (letTemporaryGo value o r>>=fun _=>pure r) Q E e) E b:=by
  rw[hs o i];exact wpAny_operating (BM c (fun r e g=>Aa (wpAny_letTemporaryGo (Ae g))) fun _ _ x=>x)
 first
  | exact Ae (Aa fin)
  | exact Aa (Ae (Aa fin))
  | exact Aa fin
theorem a36(I:Inv X c σ H s)(g:DGet H a y o):s.TypeIs (.ref a) "dict" := by
 rcases g with⟨kvs,k,e,_,_⟩|⟨kvs,k,b,e,_,_,_⟩
 . obtain⟨_,_,vs,_,dd⟩:=oy I.hok e;exact dd.typeIs
 . obtain⟨_,_,xs,_,dd⟩:=wh I.hok e;exact dd.typeIs
noncomputable def ab8(td ty:TE):TE:=fun σ H Q=>td σ H fun x H1=>ty σ H1 fun y H2=>∃a v,x=.ref a/\DGet H2 a y (some v)/\Q v H2
noncomputable def a3m(ty td:TE):TE:=fun σ H Q=>ty σ H fun y H1=>td σ H1 fun x H2=>∃a o,x=.ref a/\DGet H2 a y o/\Q (.bl (!o.isSome)) H2
noncomputable def a51(td ty tv:TE):TS:=fun D σ H=>tv σ H fun v H1=>td σ H1 fun x H2=>ty σ H2 fun y H3=>∃a H4,x=.ref a/\DPut H3 a y v H4/\D.nx σ H4
theorem acs(q:X.A.units+1<cLine)(l:PE X o j)(hi:PE X i ty)(hs:NoSl i):PE X (.Subscript o i pos) (ab8 j ty):=by
 intro b s σ H Q I h;refine a3z Ge.lookup hs (thn (l b s σ H _ I h) fun u r ⟨x,e,n,m,C⟩=>thn (hi b r σ e _ n C) fun G D ⟨y,p,d,z,a,v,ex,g,w⟩=>?_);subst ex;obtain rfl:u=Value.ref a:=m;exact⟨a36 d g,a73 q d g z fun E J f c=>⟨v,p,f,c,w⟩⟩
theorem a77(hu:X.A.units+1<cLine)(hi:PE X i ty)(ho:PE X o td):PC X .NotIn i o (a3m ty td):=by
 intro pins s σ H Q I h;refine thn (hi pins s σ H _ I h) fun iv s1 ⟨y,H1,I1,ry,q1⟩=>thn (ho pins s1 σ H1 _ I1 q1) fun u s2 ⟨x,H2,I2,rx,a,ov,ex,g,q2⟩=>?_;subst ex;obtain rfl:u=Value.ref a:=rx;exact abx hu I2 g ry fun s3 I3=>⟨.bl (!ov.isSome),H2,I3,rfl,q2⟩
theorem acg(C:X.A.units+1<cLine)(p:PE X o j)(hi:PE X i ty)(n:PE X value M)(hs:Kn value (some (.Subscript o i c)) pos.line X.env=pure false):
 PS X (.Assign [.Subscript o i c] value pos) (a51 j ty M):=by
 intro b s σ H D I h;refine wpAny_Assign_Subscript (thn (n b s σ H _ I h) fun r E ⟨v,d,w,O,N⟩=>thn (p b E σ d _ w N) fun u m ⟨x,z,F,q,G⟩=>thn (hi b m σ z _ F G) fun Q S ⟨y,R,f,L,a,e,ex,g,J⟩=>?_) hs;subst ex;obtain rfl:u=Value.ref a:=q;exact a85 C f g L O fun P l=>⟨σ,e,l,J⟩
theorem yf(h:KU)(hb:KW<h.objs.size):ObjOk P w H (h.push {cls:=.type "dict",data:=.dict #[]}) h.objs.size (.dK []) :=
 ⟨AH _,beq_eq_false_iff_ne.mpr (AO (AC hb)),[],.nil,Heap.DictOf.new h⟩
noncomputable def a86:TE:=fun _ H Q=>∀p,H p=none->Q (.ref p) (upd H p (.dK []))
theorem a9t:PE X (.Dict [] [] pos) a86:=fun b s σ H Q I h =>
 wpAny_Dict_empty ⟨.ref s.heap.objs.size,_,I.laid (a:=s.heap.objs.size) (o:=.dK []) (t':=s.toks) (fun _ _ q=>Ac _ q) (Aj _) (yf s.heap I.big),rfl,h _ (I.hok.fresh (Aj _))⟩
structure M1(X:Cx)(o:Expr)(m:Str)(apos:Pos)(e:Expr)(cpos:Pos):Prop where
 base:KQ o m X.env (eval o X.env)=eval o X.env
 few:((KP cpos (KD [e] X.env)).all (fun x => !x.1) && (Kj cpos (KO [] X.env)).all (fun x=>x.1.isSome)
  && decide (([e]:List Expr).length+([]:List Keyword).length+(if ([]:List Keyword).isEmpty then 0 else 1)<30))=true
 line:(apos.endLine==cpos.line)=true
 trees:KP cpos (KD [e] X.env)=[(false,eval e X.env)]
structure M2(X:Cx)(o:Expr)(m:Str)(apos:Pos)(e f:Expr)(cpos:Pos):Prop where
 base:KQ o m X.env (eval o X.env)=eval o X.env
 few:((KP cpos (KD [e,f] X.env)).all (fun x => !x.1) && (Kj cpos (KO [] X.env)).all (fun x=>x.1.isSome)
  && decide (([e,f]:List Expr).length+([]:List Keyword).length+(if ([]:List Keyword).isEmpty then 0 else 1)<30))=true
 line:(apos.endLine==cpos.line)=true
 trees:KP cpos (KD [e,f] X.env)=[(false,eval e X.env),(false,eval f X.env)]
noncomputable def IsD(H:Hp)(a:KA):Prop:=(∃kvs,Rd H a (.dK kvs))\/∃kvs,Rd H a (.dT kvs)
theorem a7z(I:Inv X g σ H s)(d:IsD H a):
 s.TypeIs (.ref a) "dict" /\ (∀b,Value.ref a=.ref b->∃ob,s.heap.get? b=some ob/\ob.dict=none)/\(a==KW)=false:=by
 rcases d with⟨kvs,e⟩|⟨kvs,e⟩
 . obtain⟨_,hd,vs,_,dd⟩:=oy I.hok e;refine⟨dd.typeIs,fun b q=>?_,hd⟩;cases q;obtain⟨ob,_,_,f,c,_⟩:=dd;exact⟨ob,f,c.2.1⟩
 . obtain⟨_,hd,xs,_,dd⟩:=wh I.hok e;refine⟨dd.typeIs,fun b q=>?_,hd⟩;cases q;obtain⟨ob,_,_,f,c,_⟩:=dd;exact⟨ob,f,c.2.1⟩
theorem afe(p:A.units+1<cLine)(I:Inv X c σ H s)(g:DGet H a y o)(j:RelV y u)(i:RelV d r)(h:∀m s',Inv X c σ H s'->RelV (o.getD d) m->Q m s'):
 KC (KE X.prog X.w) A (call (.builtin "dict.get") [.ref a,u,r]) Q E s:=by
 rcases g with⟨kvs,k,e,f,l⟩|⟨kvs,k,b,e,f,n,l⟩
 . subst f;obtain⟨z,hd,vs,rel,dd⟩:=oy I.hok e;refine DL CQ dd.typeIs EK (Hc _ _ _) (meets_dict_get_default (jj X.prog X.w) a (sy j) hd r) ⟨_,dd.mapOf,h _ _ (I.tok _) ?_⟩;rw[l];exact (rel.val k).getD i
 . subst f;cases (show u=Value.ref b from j);obtain⟨z,hd,xs,rel,dd⟩:=wh I.hok e;refine DL CQ dd.typeIs EK (Hc _ _ _) (meetsH_dict_get_default (tupleKind (jj X.prog X.w)) a b hd r) ⟨El p,k,xs,vn I.hok n,dd,h _ _ (I.tok _) ?_⟩;rw[l];exact (rel.val k).getD i
noncomputable def a60(td ty tx:TE):TE:=fun σ H Q=>td σ H fun x H1=>∃a,x=.ref a/\IsD H1 a/\ty σ H1 fun y H2=>tx σ H2 fun z H3=>∃o,DGet H3 a y o/\Q (o.getD z) H3
noncomputable def a63(td ty:TE):TE:=fun σ H Q=>td σ H fun x H1=>∃a,x=.ref a/\IsD H1 a/\ty σ H1 fun y H2=>∃kvs k v,H2 a=some (.dK kvs)/\y=kV k/\valV kvs k=some v/\Q v (upd H2 a (.dK (sx kvs k)))
theorem aaz(J:X.A.units+1<cLine)(D:PE X o v)(q:PE X e ty)(r:PE X f O)(m:M2 X o "get" i e f c):PE X (.Call (.Attribute o "get" i) [e,f] [] c) (a60 v ty O):=by
 intro b s σ H Q I h;refine Ji m.base m.few m.line BQ CQ HV (thn (D b s σ H _ I h) fun u L ⟨x,n,l,E,a,ex,d,T⟩=>?_);subst ex;obtain rfl:u=Value.ref a:=E;obtain⟨t1,t2,_⟩:=a7z l d;refine⟨t1,t2,?_⟩;rw[m.trees];refine CH rfl (DR (Dv (thn (q b L σ n _ l T) fun Z C ⟨y,G,M,S,N⟩ =>
  Dv (thn (r b C σ G _ M N) fun fv s3 ⟨z,U,p,R,ov,g,P⟩=>EA ?_))))
 exact afe J p g S R fun W Y w j=>⟨_,U,w,j,P⟩
theorem aa1(w:PE X o r)(p:PE X e ty)(m:M1 X o "pop" f e c):PE X (.Call (.Attribute o "pop" f) [e] [] c) (a63 r ty):=by
 intro b s σ H Q I h;refine Ji m.base m.few m.line BQ HW PySem.F.type_dict_pop (thn (w b s σ H _ I h) fun u C ⟨x,j,i,z,a,ex,d,J⟩=>?_);subst ex;obtain rfl:u=Value.ref a:=z;obtain⟨t1,t2,_⟩:=a7z i d;refine⟨t1,t2,?_⟩;rw[m.trees];refine CH rfl (DR (Dv (thn (p b C σ j _ i J) fun O L ⟨y,N,D,G,kvs,k,v,A,q,l,E⟩=>EA ?_)));subst q;exact ag3 D A G l (.inl rfl) fun M P n g=>⟨v,_,n,g,E⟩
theorem aan(I:Inv X c σ H s)(e:Rd H a (.dK kvs))(h:∀p s',H p=none->Inv X c σ (upd H p (.dK kvs)) s'->Q (.ref p) s'):KC (KE X.prog X.w) A (call (.type "dict") [.ref a]) Q E s:=by
 obtain⟨z,hd,vs,rel,dd⟩:=oy I.hok e;refine kt_call_dict hd dd (by rw[<- rel.length];exact z) fun h' d hs=>?_;refine h _ _ (I.hok.fresh (Aj _)) (I.laid (a:=s.heap.objs.size) (o:=.dK kvs) (t':=s.toks) (fun b q hq=>?_) (Aj _) (tz z (beq_eq_false_iff_ne.mpr (AO (AC I.big))) rel d));exact (hs.2 b (AC (Ar hq))).trans (Ac _ hq)
section
theorem ace{κ:Type}[DecidableEq κ]{kvs:List (κ×V)}{k:κ}{v:V}(h:valV kvs k=some v):k∈kvs.map (·.1):=by
 have q:(kvs.any fun kv=>decide (kv.1=k))=true:=by
  rw[xz,h]
  all_goals rfl
 obtain⟨p,hp,e⟩:=List.any_eq_true.mp q;exact AA.mpr ⟨p,hp,of_decide_eq_true e⟩
variable{κ:Type}[DecidableEq κ] in
variable{κ:Type}[DecidableEq κ] in
variable{κ:Type}[DecidableEq κ] in
variable{κ:Type}[DecidableEq κ] in
end
section
set_option relaxedAutoImplicit true
theorem jr{id:String}{K:Ab}(hK:X.K=K)(h:PlainAttrs T)(slot:Slot T name id)(f:typeOf (.builtin id)=pure (.type "method_descriptor"))(hm:MtR X id r)(g:QE X o to)(ha:QA X (e::es) t)(b:autoParam (KQ o name X.env (eval o X.env)=eval o X.env) a3_)(d:autoParam (((KP cpos (KD (e::es) X.env)).all (fun x => !x.1) && (Kj cpos (KO [] X.env)).all (fun x=>x.1.isSome)       && decide ((e::es).length+([]:List Keyword).length+(if ([]:List Keyword).isEmpty then 0 else 1)<30))=true) a3_)(c:autoParam ((apos.endLine==cpos.line)=true) a3_)(hs:autoParam (KD (e::es) X.env=(false,eval e X.env)::KD es X.env) a3_)(a:autoParam ((KP cpos (KD es X.env)).any (·.1)=false) a3_):QE X (.Call (.Attribute o name apos) (e::es) [] cpos) (tBM K T r to t):=by
 subst hK;exact⟨ab6 h slot f hm g.run ha.run b d c hs a⟩
end
theorem Inv.turnedL{ch:List KA}(I:Inv X a σ H s)(k:∀b o,b∉ch->s.heap.get? b=some o->h'.get? b=some o)(hc:∀b∈ch,FpOk X a H b):Inv X a σ H {s with heap:=h',toks:=t'}:=by
 have d:∀b u,H b=some u->b∉ch:=fun b u e z=>by rw[(hc b z).1] at e;cases e
 refine I.step (g':=s.gens) (d':=s.drawn) (ch:=ch) (fun b hb=>⟨(hc b hb).2.2.2.1,(hc b hb).2.1,(hc b hb).2.2.2.2.1,(hc b hb).2.2.2.2.2⟩) (fun b o _ _ hn e _=>k b o hn e) (fun b o _ _ hn e _=>⟨o.slots,k b o hn e⟩) (fun _ _ _ _ n=>n)
  (fun b o hn e=>⟨o,k b o hn e⟩) (fun _ _ e=>e) (fun _ _ _ e=>e) (fun b ps e=>⟨#[],by rw[e];simp⟩) (fun m hm=>?_) (fun b u e=>?_) I.bare
 . obtain⟨o,es,ep,g,r⟩:=hm;exact⟨o,es,ep,k _ o (fun z=>(hc _ z).2.1 rfl) g,r⟩
 . refine (I.hok b u e).stay (fun c v f q=>k c v ?_ q) (fun _ q=>q) fun _ _ q=>q;rcases f with z|z
   . rw[z];exact d b u e
   . exact d c _ z
noncomputable def j3(n:KA):List KA:=[n+4,n+2,n+3,n,n+1]
theorem oz{n l1 l2:Nat}(d:l1∉j3 n)(c:l2∉j3 n):ZipApart (n+4) (n+2) (n+3) n (n+1) l1 l2:=by
 unfold j3 at d c;simp only[Ah,Av,or_false,not_or] at d c;have nn:∀a b:Nat,a≠b->n+a≠n+b:=fun a b h=>by lia
 have e:∀a:Nat,a≠0->n≠n+a:=fun a h=>by lia
 exact⟨nn 2 4 (by decide),nn 3 4 (by decide),e 4 (by decide),nn 1 4 (by decide),nn 2 3 (by decide),(e 2 (by decide)).symm,nn 2 1 (by decide),(e 3 (by decide)).symm,nn 3 1 (by decide),e 1 (by decide),d.1,d.2.2.1,d.2.2.2.1,d.2.2.2.2,c.1,c.2.2.1,c.2.2.2.1,c.2.2.2.2⟩
theorem a4w{x:Str}(N:List Str)(Z:X.N.Nodup)(Y:X.N[iy]?=some l)(ac:Loc X.env.scope l)(U:Kn (.ListComp n [⟨.Name x px,d,r,0⟩] a pos) (some (.Name l py)) E.line X.env=pure true)(S:X.fn l=true\/X.env.scope.names.lookup l=some .local)(hc:X.calm=true)(hi:PI X (.Name x px) d wi)(W:∀s H C ex,PTs (blk X N s H a cl C ex) r tc)(he:∀s H C ex,PE (blk X N s H a cl C ex) n te)(i:a.kind=.function)(hN:N=x::ix.map fun j=>(X.N[j]?).getD "")(hnd:N.Nodup)(hx:a.names.lookup x=some .local)(L:closureFor a X.env=pure cl)(g:∀y∈a.names,y.2≠.cell)(f:∀y∈a.names,y.2=.local->a.names.lookup y.1=some .local)(m:∀y c,cl.lookup y=some c->X.env.cells.lookup y=some c)(p:∀y,((KS a X.env).names.lookup y=some .cell\/(KS a X.env).names.lookup y=some .free)->∃c,cl.lookup y=some c)(P:∀j∈ix,∃y,X.N[j]?=some y/\X.env.kindOf y=some .cell/\(KS a X.env).names.lookup y=some .cell)(hs:autoParam (∀x,KM d X.env x=pure x) a2_):
 PS X (.Assign [.Name l py] (.ListComp n [⟨.Name x px,d,r,0⟩] a pos) E) (tAsg (uo ix wi tc te) (gt iy)):=by
 intro v s σ H D0 I h;rw[exec_Assign_Name_used _ _ _ _ U];refine Aa (EM (Aa ?_));show KC _ _ (comprehension _ _ _ _ _ _ _ _>>=_) _ _ _;refine Aa (BM (Q:=fun _ s'=>SP X v D0 .next s') (a0m N hc hi W he i hN hnd hx L g f m p P hs (use:=some (assign (.Name l py) X.env)) I h fun D C s6 H5 mm I7 hm T u w hsz A qn=>?_) (fun _ s' q=>Ae (Ae q)) fun _ _ y=>y);refine FU (a0n I7 Z Y ac (show RelV (V.ref D) (Value.ref D) from rfl) (fun s8 I8 M=>?_) S);obtain⟨a8,aa,ab⟩:=M;have O:C≠a8:=by
  rcases ab with z|z
  . rw[z];exact u
  . exact AO (w _ _ z)
 obtain⟨oC,G,J,R,rC⟩:=hm;refine⟨mm,⟨oC,G,J,aa.extBut _ _ O R,rC⟩,fun h9 F=>?_⟩;exact⟨_,H5,I8.turned (t':=s8.toks) (it:=C) (fun b o hb e=>F.extBut b o hb e) T u (.inr hsz) w A,qn⟩
theorem a03:QE X (.Dict [] [] pos) a86:=⟨a9t⟩
theorem qr(a:X.A.units+1<cLine)(c:QE X o b)(hi:QE X i ty)(hs:NoSl i):QE X (.Subscript o i pos) (ab8 b ty):=⟨acs a c.run hi.run hs⟩
theorem a8n(a:X.A.units+1<cLine)(hi:QE X i ty)(c:QE X o b)(hm:autoParam (Kk .NotIn o=false) a4_):QT X (.Compare i [.NotIn] [o] pos) (tB (a3m ty b)):=⟨aez (a77 a hi.run c.run) hm⟩
theorem km(b:X.A.units+1<cLine)(f:QE X o c)(hi:QE X i ty)(e:QE X value d)(hs:autoParam (Kn value (some (.Subscript o i a)) pos.line X.env=pure false) a3_):
 QS X (.Assign [.Subscript o i a] value pos) (a51 c ty d):=⟨acg b f.run hi.run e.run hs⟩
theorem a9x(h:X.A.units+1<cLine)(j:QE X o i)(d:QE X e ty)(c:QE X f g)(m:autoParam (M2 X o "get" b e f a) a9_):
 QE X (.Call (.Attribute o "get" b) [e,f] [] a) (a60 i ty g):=⟨aaz h j.run d.run c.run m⟩
theorem qf:ku X (.type "dict") (fun xs H Q=>∃a kvs,xs=[V.ref a]/\H a=some (.dK kvs)/\∀p,H p=none->Q (.ref p) (upd H p (.dK kvs))):=by
 intro b s σ H xs us Q I r h;obtain⟨a,kvs,rfl,ha,q⟩:=h;obtain⟨u,rfl,c⟩:=ut r;cases c;exact aan I (.inl ha) fun p s' hp d=>⟨.ref p,_,d,rfl,q p hp⟩
theorem a4k{k:Key}(h:(jj P w).is k v=true):RelV (kV k) v:=by
 rcases ju h with⟨i,t,rfl,rfl⟩|⟨x,t,rfl,rfl⟩
 . exact⟨t,rfl⟩
 . exact⟨t,rfl⟩
theorem a1n:∀{ks:List V}{vs:List KB},vs.length=ks.length->(∀(j:Nat) (v:KB),vs[j]?=some v->∃y,ks[j]?=some y/\RelV y v)->Vals ks vs
 | [],[],_,_=>.nil
 | k::ks,v::vs,hl,h=>by
  obtain⟨y,e,r⟩:=h 0 v rfl;cases e;exact .cons r (a1n (by simpa using hl) fun j u a=>h (j+1) u (by simpa using a))
theorem a01(hc:X.calm=true):ku X (.type "list") (fun xs H Q=>∃a kvs,xs=[V.ref a]/\H a=some (.dK kvs)/\∀p,H p=none->Q (.ref p) (upd H p (.lst (kvs.map fun kv=>kV kv.1)))):=by
 intro g s σ H xs us Q I r h;obtain⟨a,kvs,rfl,ha,q⟩:=h;obtain⟨u,rfl,i⟩:=ut r;cases i;obtain⟨z,hd,vs,rel,dd⟩:=oy I.hok (.inl ha);have hl:=rel.length;obtain⟨ep,y⟩:=dd.dictAt;refine PySem.W.kdl_call (PySem.W.kdl_dict hd) (I.ok.hd hc) y (by rw[<- hl];exact z) fun h' tk f c l n b=>?_;refine⟨.ref s.heap.objs.size,_,I.laid (t':=tk) l (Aj _) (show ObjOk X.prog X.w _ h' _ (.lst (kvs.map fun kv=>kV kv.1)) from⟨by rw[Ad];exact z,f.toList,c,?_,by simpa using n⟩),rfl,q _ (I.hok.fresh (Aj _))⟩;refine a1n (by rw[Bj,Ad,hl];exact b.1) fun j v m=>?_;obtain⟨k,x,e,A⟩:=b.2 j v (by rw[<- BO];exact m);have o:=rel.keys;have d:(vs.map (·.1))[j]?=some k:=by rw[Am,e];rfl
 rw[<- o,Am] at d;refine⟨kV k,?_,a4k A⟩;rw[Am];cases hj:kvs[j]? with
 | none=>rw[hj] at d;cases d
 | some p=>rw[hj] at d;rw[<- Au d];rfl
theorem xw:ku X (.builtin "sorted") (fun vs H Q=>∃(a:KA) (c:List Str),vs=[.ref a]/\SqL X.K H a (c.map V.str)/\c.length<64/\
 ∀p zs,H p=none->zs.Perm c->sortedS zs=true->Q (.ref p) (upd H p (.lst (zs.map V.str)))):=by
 intro d s σ H vs us Q I r h;obtain⟨a,c,rfl,hq,hz,q⟩:=h;obtain⟨u,rfl,g⟩:=r.one;cases g;obtain⟨its,n,p,_⟩:=I.list hq;have hs:=vi n;have hl:its.length=c.length:=hs.length;refine sorted_strs p.isList hs (by lia) fun out zs j f l=>?_;obtain⟨e,i⟩:=sortedAll_at s.heap its out;have fr:H (s.heap.objs.size+1)=none:=I.hok.fresh (Bs _);have m:zs.length<64:=by rw[f.length_eq];exact hz
 exact⟨.ref (s.heap.objs.size+1),upd H (s.heap.objs.size+1) (.lst (zs.map V.str)),I.laid (t':=s.toks) (fun b o hb=>sortedAll_old hb) (Bs _) ⟨by rw[Ad];exact BG (l8 (by lia)),out.toList,e,v9 j,by simpa [seqObj] using i⟩,rfl,q _ zs fr f l⟩
theorem xr:∀{ks:List (Key×KB)}{k:Key}{v:KB},(ks.map (·.1)).Nodup->(k,v)∈ks->valueAt ks k=some v
 | [],_,_,_,hm=>by simp at hm
 | q::r,k,v,hnd,hm=>by
  rw[As,Bc] at hnd;unfold valueAt;by_cases hq:q.1=k
  . rcases Ah.mp hm with rfl|a
    . simp
    . exact absurd (AA.mpr ⟨(k,v),a,hq.symm⟩) hnd.1
  . rcases Ah.mp hm with rfl|a
    . exact absurd rfl hq
    . have:=xr hnd.2 a;unfold valueAt at this;simp only[BJ];simp[hq,this]
noncomputable def a52:V->Bool
 | .byt _=>false
 | .flt _=>false
 | _=>true
theorem a1u(d:a52 v=true)(r:RelV v u)(c:RelV v e):Ii A s u e true:=by
 cases v with
 | non=>cases r;cases c;exact Ea _
 | bl b=>cases r;cases c;exact Ea _
 | int i =>
  obtain⟨t,rfl⟩:=r;obtain⟨t',rfl⟩:=c;have:=IT (A:=A) (s:=s) i t i t';simpa using this
 | str x =>
  obtain⟨t,rfl⟩:=r;obtain⟨t',rfl⟩:=c;have:=Eh (A:=A) (s:=s) x t x t';simpa using this
 | byt b=>cases d
 | flt b=>cases d
 | ref a=>cases r;cases c;exact Ea _
 | ty n=>cases r;cases c;exact Ea _
theorem a1v:∀ls:List (Key×KB),(∀p∈ls,∃y,valueAt kb p.1=some y/\Ii A s p.2 y true)->PySem.W.KeqHits A s kb ls true
 | [],_=>.nil
 | (k,v)::ls,h=>by
  obtain⟨y,b,a⟩:=h (k,v) (Ag ..);have:=PySem.W.KeqHits.hit (A:=A) (s:=s) (kb:=kb) b a (a1v ls fun p hp=>h p (Al _ hp));simpa using this
theorem a58{h:KU}(d:h.DictOf (jj P w) a vs):(vs.map (·.1)).Nodup:=by
 obtain⟨_,_,_,_,_,_,_,_,hn⟩:=d;exact hn
theorem a27{L:List (Str×NameKind)}{cl:List (Str×KA)}(b:cl.map (·.1)=ks)(a:(L.all fun y=>(match y.2 with|.cell=>false|.free=>false|_=>true) || decide (y.1∈ks))=true)(z:Str)(h:L.lookup z=some .cell\/L.lookup z=some .free):∃c,cl.lookup z=some c:=by
 have hm:z∈cl.map (·.1):=by
  rw[b];rcases h with h|h
  . have:=Dj.mp a _ (BL h);simpa using this
  . have:=Dj.mp a _ (BL h);simpa using this
 clear b a;induction cl with
 | nil=>simp at hm
 | cons p r ih =>
  rw[Cf];cases hb:z==p.1 with
  | true=>exact⟨_,rfl⟩
  | false =>
   rw[As,Ah] at hm;rcases hm with d|d
   . rw[d] at hb;simp at hb
   . exact ih d
theorem af8:QE X (.UnaryOp .USub (.Constant (.int 1) j p3) p4) (fun _ H Q=>Q (.int (-1)) H):=⟨fun a s σ H Q I q=>abo jm rd a s σ H Q I ⟨1,rfl,q⟩⟩
noncomputable def tRev(K:Ab)(te:TE):TE:=fun σ H Q=>te σ H fun x H1=>∃a xs,x=.ref a/\SqL K H1 a xs/\∀p,H1 p=none->Q (.ref p) (upd H1 p (.lst xs.reverse))
theorem vt:∀{xs:List V}{us:List KB},Vals xs us->Vals xs.reverse us.reverse
 | _,_,.nil=>.nil
 | _,_,.cons r t=>by
  rw[Cj,Cj];exact Vals.append (vt t) (.cons r .nil)
theorem aev(C:QE X e L):QE X (.Subscript e (.Slice none none (some (.UnaryOp .USub (.Constant (.int 1) j p3) p4)) p2) pos) (tRev X.K L):=by
 refine⟨fun c s σ H Q I h=>?_⟩;refine Subscript_ (thn (C.run c s σ H _ I h) fun v F ⟨x,l,D,z,M⟩=>?_);obtain⟨a,xs,rfl,J,q⟩:=M;cases z;refine Jm ?_;rw[FP];refine Ae (Ae ?_);rw[Iu];refine thn ((af8 (X:=X) (j:=j) (p3:=p3) (p4:=p4)).run c F σ l (fun y g=>y=.int (-1)/\g=l) D ⟨rfl,rfl⟩) fun u d ⟨y,g,n,E,G⟩=>?_;obtain⟨rfl,rfl⟩:=G;obtain⟨t,rfl⟩:=E;obtain⟨its,r,ht,hz⟩:=n.list J;have p:=r.length;have m:Inv X c σ g {d with heap:=d.heap.push {cls:=.type "slice",data:=.fields #[.none,.none,.int (-1) t]}}:=n.kept (t':=d.toks) fun b ob q=>Ac _ q;have f:Jo (d.heap.push {cls:=.type "slice",data:=.fields #[.none,.none,.int (-1) t]}) a its.toArray:=ht.isList.push _;have i:EN {d with heap:=d.heap.push {cls:=.type "slice",data:=.fields #[.none,.none,.int (-1) t]}} (.ref a) "list" := IX (s:={d with heap:=d.heap.push {cls:=.type "slice",data:=.fields #[.none,.none,.int (-1) t]}}) f;show KC (KE X.prog X.w) X.A (subscriptTail e (.Slice none none (some (.UnaryOp .USub (.Constant (.int 1) j p3) p4)) p2) (.ref a) (.ref d.heap.objs.size)) (EP X c σ Q) X.xe {d with heap:=d.heap.push {cls:=.type "slice",data:=.fields #[.none,.none,.int (-1) t]}};refine tail_any (ops:=[.ref a,.ref d.heap.objs.size]) i EC.lookup ?_ (by with_unfolding_all rfl);refine Eg f (FB ..) .none .none (.int (-1) t) (by simp) ?_ (by rw[Ao]<;>lia);rw[PySem.W.krv_pick];refine⟨.ref _,_,m.laid (t':=d.toks) (o:=.lst xs.reverse) (fun b ob q=>Ac _ q) (Aj _) ?_,rfl,q _ (m.hok.fresh (Aj _))⟩;exact⟨by rw[Dm];exact hz,its.reverse,0,vt r,An _ rfl⟩
theorem a2r{cl cells:List (Str×KA)}(h:∀p∈cl,cells.lookup p.1=some p.2)(y:Str)(c:KA)(e:cl.lookup y=some c):cells.lookup y=some c:=h (y,c) (BL e)
inductive ClIn(cells:List (Str×KA)):List (Str×KA)->Prop
 | nil:ClIn cells []
 | cons{x:Str}{a:KA}{r:List (Str×KA)}:cells.lookup x=some a->ClIn cells r->ClIn cells ((x,a)::r)
theorem ClIn.all(h:ClIn cells cl):∀p∈cl,cells.lookup p.1=some p.2:=by
 induction h with
 | nil=>intro p hp;cases hp
 | cons h _ ih =>
  intro p hp;rcases Ah.mp hp with rfl|z
  . exact h
  . exact ih p z
inductive IxIn(X:Cx)(sc:Scope):List Nat->Prop
 | nil:IxIn X sc []
 | cons{j:Nat}{y:Str}{r:List Nat}:X.N[j]?=some y->X.env.kindOf y=some .cell->(KS sc X.env).names.lookup y=some .cell->IxIn X sc r->IxIn X sc (j::r)
theorem IxIn.all(h:IxIn X a b):∀j∈b,∃y,X.N[j]?=some y/\X.env.kindOf y=some .cell/\(KS a X.env).names.lookup y=some .cell:=by
 induction h with
 | nil=>intro p hp;cases hp
 | cons h1 h2 h3 _ ih =>
  intro p hp;rcases Ah.mp hp with rfl|z
  . exact⟨_,h1,h2,h3⟩
  . exact ih p z
theorem a94{x:Str}(N:List Str)(m:List Nat)(hi:QI X (.Name x px) c v)(o:∀s H C ex,QTs (blk X N s H a cl C ex) g A)(q:∀s H C ex,QE (blk X N s H a cl C ex) f w)(l:autoParam (closureFor a X.env=pure cl) a3_)(h:autoParam (ClIn X.env.cells cl) a10_)(r:autoParam (N=x::m.map (fun j=>(X.N[j]?).getD "")) a3_)(hnd:autoParam (N.Nodup) a1_)(i:autoParam (cl.map (·.1)=N.tail) a3_)(p:autoParam (((KS a X.env).names.all fun y=>(match y.2 with|.cell=>false|.free=>false|_=>true) || decide (y.1∈N.tail))=true) a4_)(n:autoParam (IxIn X a m) a10_)(u:autoParam (a.names.lookup x=some .local) a1_)(d:autoParam (∀z∈a.names,z.2≠.cell) a1_)(b:autoParam (∀z∈a.names,z.2=.local->a.names.lookup z.1=some .local) a1_)(hc:autoParam (X.calm=true) a3_)(e:autoParam (a.kind=.function) a3_)(hs:autoParam (∀x,KM c X.env x=pure x) a2_):
 QE X (.ListComp f [⟨.Name x px,c,g,0⟩] a pos) (uo m v A w) :=
 ⟨a3l N hc hi.run (fun s H C ex=>(o s H C ex).run) (fun s H C ex=>(q s H C ex).run) e r hnd u l d b (a2r h.all) (a27 i p) n.all hs⟩
theorem qy{x:Str}(N:List Str)(q:List Nat)(r:X.N.Nodup)(m:X.N[i]?=some h)(w:Loc X.env.scope h)(hi:QI X (.Name x px) b L)(D:∀s H C ex,QTs (blk X N s H a cl C ex) g O)(G:∀s H C ex,QE (blk X N s H a cl C ex) f M)(A:autoParam (Kn (.ListComp f [⟨.Name x px,b,g,0⟩] a pos) (some (.Name h F)) l.line X.env=pure true) a3_)(v:autoParam (X.fn h=true\/X.env.scope.names.lookup h=some .local) a0_)(p:autoParam (closureFor a X.env=pure cl) a3_)(n:autoParam (ClIn X.env.cells cl) a10_)(I:autoParam (N=x::q.map (fun j=>(X.N[j]?).getD "")) a3_)(hnd:autoParam (N.Nodup) a1_)(o:autoParam (cl.map (·.1)=N.tail) a3_)(E:autoParam (((KS a X.env).names.all fun y=>(match y.2 with|.cell=>false|.free=>false|_=>true) || decide (y.1∈N.tail))=true) a4_)(u:autoParam (IxIn X a q) a10_)(J:autoParam (a.names.lookup x=some .local) a1_)(d:autoParam (∀z∈a.names,z.2≠.cell) a1_)(c:autoParam (∀z∈a.names,z.2=.local->a.names.lookup z.1=some .local) a1_)(hc:autoParam (X.calm=true) a3_)(e:autoParam (a.kind=.function) a3_)(hs:autoParam (∀x,KM b X.env x=pure x) a2_):
 QS X (.Assign [.Name h F] (.ListComp f [⟨.Name x px,b,g,0⟩] a pos) l) (tAsg (uo q L O M) (gt i)) :=
 ⟨a4w N r m w A v hc hi.run (fun s H C ex=>(D s H C ex).run) (fun s H C ex=>(G s H C ex).run) e I hnd J p d c (a2r n.all) (a27 o E) u.all hs⟩
theorem a79(b:QE X e c)(hb:autoParam (KQ e a X.env (eval e X.env)=eval e X.env) a3_):QE X (.Attribute e a pos) (tFld X.K c a):=⟨af4 b.run hb⟩
theorem aff(ha:QE X o e)(d:QE X value c)(hs:autoParam (Kn value (some (.Attribute o b a)) pos.line X.env=pure false) a3_):QS X (.Assign [.Attribute o b a] value pos) (sFld X.K e c b):=⟨aew ha.run d.run hs⟩
theorem act{k:Nat}{t:TA}{pl:Sem Bool}(h:QE X o j)(c:Cls X.K C)(hm:Meth X.K C m f)(F:FnOk X.prog X.w X.K X.mg X.base CX k f fd ps sp)(hr:Room k X.A)(hb:Binds X.K fd ps ds)(hd:Vals dvs ds)(i:ml CX X E)(ha:QA X (e::es) t)(b:autoParam (KD (e::es) X.env=(false,eval e X.env)::KD es X.env) a3_)(d:autoParam ((KP pos (KD es X.env)).any (·.1)=false) a3_)(ht:autoParam (eval (.Call (.Attribute o m a) (e::es) [] pos) X.env=(do
 let g<-eval o X.env
 standAt a.atName
 let (f,first)<-holding [g] (getMethod g m pl)
 callWith pos f first (KP pos (KD (e::es) X.env)) (Kj pos (KO [] X.env)))) a3_):
 QE X (.Call (.Attribute o m a) (e::es) [] pos) (ph C m sp dvs E j t):=⟨ads h.run c hm F hr hb hd i ha.run b d ht⟩
theorem a8y{k:Nat}{pl:Sem Bool}(d:QE X o g)(c:Cls X.K C)(hm:Meth X.K C m f)(F:FnOk X.prog X.w X.K X.mg X.base CX k f fd ps sp)(hr:Room k X.A)(hb:Binds X.K fd ps ds)(hd:Vals dvs ds)(e:ml CX X E)(ht:autoParam (eval (.Call (.Attribute o m a) [] [] pos) X.env=(do
 let b<-eval o X.env
 standAt a.atName
 let (f,first)<-holding [b] (getMethod b m pl)
 callWith pos f first (KP pos (KD [] X.env)) (Kj pos (KO [] X.env)))) a3_):
 QE X (.Call (.Attribute o m a) [] [] pos) (ph C m sp dvs E g tNil):=⟨a9v d.run c hm F hr hb hd e ht⟩
theorem acq{k:Nat}{x:Str}{t:TA}(M:Mk X.K C f)(F:FnOk X.prog X.w X.K X.mg X.base CX k f fd ps sp)(hr:Room (k+1) X.A)(g:Gl X x)(hm:X.mg x=some (.ref C))(hb:Binds X.K fd ps ds)(hd:Vals dvs ds)(d:ml CX X E)(ha:QA X (e::es) t)(b:autoParam ((x==("__debug__":Str))=false) a1_)(c:autoParam (KD (e::es) X.env=(false,eval e X.env)::KD es X.env) a3_)(a:autoParam ((KP pos (KD es X.env)).any (·.1)=false) a3_):
 QE X (.Call (.Name x p) (e::es) [] pos) (a4v C sp dvs E t):=⟨ac6 M F hr g hm hb hd d ha.run b c a⟩
theorem a2a(h:s.heap.IsKeyIter J d n es.size ep)(g:s.heap.get? d=some od)(f:od.data=.dict es ep)(l:A.handled=none)(j:∀(hn:n<es.size) h',h'.IsKeyIter J d (n+1) es.size ep->Cn J s.heap h'->Q (some es[n].key) {s with heap:=h'})(o:es.size<=n->∀h',Hw J s.heap h'->Q none {s with heap:=h'}):
 KC (KE prog w) A (Kh (.ref J)) Q E s:=by
 obtain⟨p,g1,i,c⟩:=id h;have ty:=h.typeIs;have no:Builtin.Dict_items.ownsTuple "dict_keyiterator"=false:=by decide
 have nn:¬ ((Value.ref d==Value.none)=true):=Ak;have pos:¬ ((n:Int)<0):=by lia
 unfold Kh;refine Aa (CV (Bn (name:=Bf "__next__") ty EF (Bp EF ty PySem.F.entry_dict_keyiterator_next ?_ (PySem.F.args_dict_keyiterator_next_1 _))));refine Aa (Ae (Aa (Aa ?_)))
 first|refine Aa (DB ty (Ae (Aa (Fv g1 c ?_))))|refine Aa (En ty (Ae (Aa (Fv g1 c ?_))))
 simp only[no,B0,if_false];show KC _ _ (if (Value.ref d==Value.none)=true then _ else _) _ _ s;rw[if_neg nn];refine Aa (Ae (Aa (Jj g f ?_)));rw[if_neg (by simp)];refine Aa (Ae (Aa (wpAny_dictEpoch g f ?_)));rw[if_neg (by simp)];refine Ae ?_;by_cases hn:n<es.size
 . simp only[pos,if_false,Bv,Gf hn];refine Aa ?_
   first|refine Aa (DB ty (Ae (Aa (EV ty ?_))))|refine Aa (En ty (Ae (Aa (EV ty ?_))))
   show KC _ _ (setField (.ref J) 1 (Ko ((n:Int)+1))>>=_) _ _ s;refine Aa (Fx g1 c (by simp) ?_);have e:(s.heap.update J (FR (·.setIfInBounds 1 (Ko ((n:Int)+1))))).IsKeyIter J d (n+1) es.size ep:=⟨_,B9 _ g1 (DM (CL c _)),(EG ..).trans i,(by rw[CL c];simp[Ko])⟩
   refine Aa (AU (Aa (EV (s:={s with heap:=s.heap.update J (FR (·.setIfInBounds 1 (Ko ((n:Int)+1))))}) e.typeIs ?_)));exact Ae (Ae ⟨_,rfl,Ae (j hn _ e (CA ..))⟩)
 . simp only[pos,if_false,Bv,Array.getElem?_eq_none (Gi hn)];refine Aa ?_
   first|refine Aa (DB ty (Ae ?_))|refine Aa (En ty (Ae ?_))
   show KC _ _ (setField (.ref J) 0 .none>>=_) _ _ s;refine Aa (Fx g1 c (by simp) (Aa ?_));simp only[newExc,newTuple];refine Aa (AX ?_ (by size_fits));refine Aa (m:=firstArgMember _ _) (EJ (a:=Value.none) (by first|rfl|(simp only[firstArgMember];rfl)) (AX ?_ (by size_fits)));simp only[raiseNew];refine Aa (wpAny_handled ?_);rw[show A.in1.handled=none from l];refine Aa (Ae (wpAny_throw ?_));have sub:=Fw;refine Aa (DT (T := "StopIteration") (b:=true) ⟨_,An _ rfl,rfl⟩ sub ?_);exact Ae (o (Gi hn) _ (((CA ..).extBut.push _).push _))
theorem a9p(hd:(d==KW)=false)(a:s.heap.get? d=some od)(hc:od.ExactDict)(b:od.data=.dict es ep)(q:Q (.ref s.heap.objs.size) {s with heap:=s.heap.push {cls:=.type "dict_keyiterator",data:=.fields #[.ref d,.int 0 0,.int es.size 0,.int ep 0]}}):KC (KE prog w) A (pyIter (.ref d)) Q E s:=by
 have ty:s.TypeIs (.ref d) "dict" := ⟨od,a,hc.1⟩
 refine FW ty Hx (Bp Hx ty PySem.F.entry_dict_iter ?_ (PySem.F.args_dict_iter_1 _));unfold Builtin.«dict.__iter__»;refine Aa ?_;unfold Builtin.Dict.dictSlotNone;refine Aa (EW ty (Ae ?_));show KC _ _ (HX d>>=_) _ _ s;unfold HX;rw[if_neg (show ¬ (d==KW)=true by rw[hd];exact Ak)];refine Aa (Ae (Aa (Jj a b (Aa (wpAny_dictEpoch a b ?_)))));exact Aa (AX (Ae ⟨_,rfl,"dict_keyiterator",_,⟨_,An _ rfl,rfl⟩,PySem.F.slot_dict_keyiterator_next.lookup,q⟩))
noncomputable def NF(X:Cx)(a:KA):Prop:=∀o u,X.H₀ a≠some (.frz o u)
theorem Inv.nf(I:Inv X b σ H s)(e:H a=some u)(c:∀o v,u≠.frz o v):NF X a:=fun o v z=>by
 have:=I.base.frzs a o v z;rw[e] at this;exact c o v (Au this)
theorem Inv.thaw(I:Inv X d σ H s)(e:H a=some (.frz o u))(nf:NF X a):Inv X d σ (upd H a u) s:=by
 have k:∀b v,H b=some v->(∀f g,v≠.frz f g)->(upd H a u) b=some v:=fun b v q n=>by
  rw[f6 fun z=>by rw[z,e] at q;exact n o u (Au q).symm];exact q
 have k0:∀b,H b=none->(upd H a u) b=none:=fun b q=>by
  rw[f6 fun z=>by rw[z,e] at q;cases q];exact q
 have hok:HOk X.prog X.w (upd H a u) s.heap:=fun b v q=>by
  have st:∀{c:KA} {i:HO},ObjOk X.prog X.w H s.heap c i->ObjOk X.prog X.w (upd H a u) s.heap c i:=fun x=>x.stay (fun _ _ _ z=>z) (fun c z=>k c _ z fun _ _ y=>by cases y) fun c xs z=>k c _ z fun _ _ y=>by cases y
  by_cases hb:b=a
  . subst hb;rw[g8] at q;cases q;exact st (I.hok b _ e).2
  . rw[f6 hb] at q;exact st (I.hok b v q)
 have bs:=I.base;refine⟨I.ok,I.os,I.bare,⟨bs.keep,bs.slot,fun b ob q n j=>k0 b (bs.free b ob q n j),bs.there,fun b xs q=>k b _ (bs.tups b xs q) (fun _ _ y=>nomatch y),fun b f g q=>?_,fun b ps q=>?_⟩,I.loc,I.cell,k0 _ I.free,fun x c z=>k0 _ (I.freeC x c z),fun p hp=>?_,hok,I.len⟩
 . have h:=bs.frzs b f g q;rw[f6 fun z=>by rw[z] at q;exact nf f g q];exact h
 . obtain⟨m,h⟩:=bs.tbls b ps q;exact⟨m,k b _ h fun _ _ y=>by cases y⟩
 . obtain⟨p1,p2,p3⟩:=I.pin p hp;exact⟨p1,k0 _ p2,p3⟩
noncomputable def ag1(X:Cx)(t:TE):TE:=fun σ H Q=>t σ H fun v H2=>∃a o u,H2 a=some (.frz o u)/\NF X a/\Q v (upd H2 a u)
theorem ac9{t:TE}(h:QE X ex t):QE X ex (ag1 X t):=⟨fun b s σ H Q I q=>thn (h.run b s σ H _ I q) fun g i ⟨v,f,d,r,a,o,u,e,nf,c⟩=>⟨v,_,d.thaw e nf,r,c⟩⟩
end L2
namespace HT
open PyProof.Rows L2
theorem getItem_tuple_whole{t:KA}{lo:Option Int}(ht:IsTup s.heap t items)(hs:s.heap.IsSliceOf e j i .none)(pl:IsPart j lo)(g:IsPart i hi)(l:sIx items.size 0 lo=0)(f:sIx items.size items.size hi=items.size)(h:Q (.ref t) s):KC (KE prog w) A (getItem (.ref t) (.ref e)) Q E s:=by
 obtain⟨os,d,b,m⟩:=id hs;have c:s.TypeIs (.ref e) "slice" := ⟨os,d,b⟩
 unfold getItem
 try with_reducible refine AU ?_
 first|refine Aa (Ae ?_)|skip
 refine Aa (Jb ht.typeIs (by decide) ?_);refine Aa (Bn (name:=Bf "__getitem__") ht.typeIs BI
  (Bp BI ht.typeIs entry_tuple_getitem ?_ (args_tuple_getitem _ _)))
 show KC _ _ (FO (.ref t)>>=_) _ _ s;refine Aa (tupleItemsOf_ ht ?_);refine Aa (CJ c ?_);rw[if_pos (by decide)];refine Aa (r8 hs pl g ?_);have a:((((sIx items.size 0 lo:Nat):Int)==0 && (1:Int)==1 && (sIx items.size items.size hi-sIx items.size 0 lo)==items.size)=true):=by
  rw[l,f];simp
 show KC _ _ (if (((sIx items.size 0 lo:Nat):Int)==0 && (1:Int)==1 && (sIx items.size items.size hi-sIx items.size 0 lo)==items.size)=true then _ else _) _ _ s;rw[if_pos a];unfold Builtin.Tuple.tupleIsExact;refine Aa (Aa (CJ ht.typeIs (Ae ?_)));rw[if_pos (by decide)];refine Aa (Cp ?_);exact Ae ⟨_,rfl,Ae h⟩
theorem cat_tup0{t:KA}{ws:List KB}(ht:IsTup s.heap t vs.toArray)(hb:IsTup s.heap b ws.toArray)(j:vs=[])(l:Q (.ref b) s):KC (KE prog w) A (Ki .Add (.ref t) (.ref b)) Q E s:=by
 obtain⟨⟨cls,dd,data,m⟩,i,hc,n,hd⟩:=id ht;obtain⟨⟨h,e,g,f⟩,c,d,n2,a⟩:=id hb;simp only at hc hd d a;subst hc hd d a;exact IQ ⟨_,i,rfl⟩ ⟨_,c,rfl⟩ Gh Ir EI Ew (Ef _ _)
  (tuple_addW0 t b vs.toArray ws.toArray n n2 dd e m f (by simp[j])) ⟨i,c,l⟩
end HT
namespace L2
open PyProof.Rows
theorem a5j{lo:Option Int}(b:HT.sIx xs.length 0 lo=0)(a:HT.sIx xs.length xs.length hi=xs.length):cutV xs lo hi=xs:=by grind [cutV]
noncomputable def a16(K:Ab):V->Option Int->Option Int->Hp->VK->Prop:=fun x lo hi H Q=>∃a xs,x=.ref a/\SqT K H a xs/\∀p H',Same H H'->SqT K H' p (cutV xs lo hi)->Q (.ref p) H'
theorem oj:SlR X (a16 X.K):=by
 intro c s σ H x v i g lo hi j Q I f hs pl e h;obtain⟨a,xs,rfl,d,q⟩:=h;by_cases hw:HT.sIx xs.length 0 lo=0/\HT.sIx xs.length xs.length hi=xs.length
 . cases f;obtain⟨its,r,ht,hz⟩:=I.tuple d;have b:its.toArray.size=xs.length:=by rw[Ao];exact r.length.symm
   refine⟨"tuple",_,BI.lookup,ht.typeIs,?_⟩;refine HT.getItem_tuple_whole ht hs pl e (by rw[b];exact hw.1) (by rw[b];exact hw.2) ?_;refine⟨.ref a,H,I,rfl,q a H (Same.refl _) ?_⟩;rw[a5j hw.1 hw.2];exact d
 . exact zb c s σ H (.ref a) v i g lo hi j Q I f hs pl e ⟨a,xs,rfl,d,hw,fun p hp=>q p _ (gk hp _) (SqT.of g8)⟩
noncomputable def a6h(K:Ab):R2:=fun x y H Q=>∃a b xs ys,x=.ref a/\y=.ref b/\SqT K H a xs/\SqT K H b ys/\xs.length+ys.length<=KF/\∀p H',Same H H'->SqT K H' p (xs++ys)->Q (.ref p) H'
theorem a22:OpR X (Ki .Add) (a6h X.K):=by
 intro c s σ H x y v u Q I e f h;obtain⟨a,b,xs,ys,rfl,rfl,ha,hb,hz,q⟩:=h;by_cases d:xs=[]
 . cases e;cases f;obtain⟨its,i,p1,_⟩:=I.tuple ha;obtain⟨g,j,p2,_⟩:=I.tuple hb;refine HT.cat_tup0 p1 p2 (i.nil_iff.mpr d) ⟨.ref b,H,I,rfl,q b H (Same.refl _) ?_⟩;rw[d];exact hb
 . exact wf c s σ H (.ref a) (.ref b) v u Q I e f ⟨a,b,xs,ys,rfl,rfl,ha,hb,d,hz,fun z=>q a H (Same.refl _) (by rw[z,Dw];exact ha),fun _ p hp=>q p _ (gk hp _) (SqT.of g8)⟩
noncomputable def Itr2(lo:Int)(n:Nat):It:=⟨fun i _=>i<n,fun i H x H'=>H'=H/\x=.int (lo+i*2),fun i _=>n<=i⟩
theorem a3a{K:Ab}(it:KA)(lo:Int)(n:Nat):Turn P w K A (Itr2 lo n) [it] it (fun i h=>IsRangeIter h it (lo+(i:Nat)*2) ((n:Int)-(i:Nat)) 2) where
 mem:=by simp
 obj:=fun i h st b hb=>by
  obtain rfl:b=it:=by simpa using hb
  exact⟨_,st,fun v z=>by
   have u:Data.fields _=Data.cell v:=z;cases u⟩
 keep:=fun i h h' st k=>k it (by simp) _ st
 item:=by
  intro X p hw hK hc i a s σ H E I d st m;subst p hw hK;obtain⟨l,f1,f2,f,g,j⟩:=d it (by simp);refine (Kb (prog:=X.prog) (w:=X.w) (I.ok.hd hc) it lo 2 n).item i s _ _ m st fun v h' tk q c kk=>?_;obtain⟨t,rfl⟩:=q;have r:Inv X a σ H {s with heap:=h',toks:=tk}:=I.turned (fun b o hb e=>kk b o (by simpa using hb) e) l f1 f g j;exact⟨_,rfl,yt (s:={s with heap:=h',toks:=tk}) (n := "range_iterator") c rfl rfl (by decide) ⟨.int (lo+i*2),H,r,⟨t,rfl⟩,⟨rfl,rfl⟩,c,fun b hb=>(d b hb).1⟩⟩
 done:=by
  intro X p hw hK hc i a s σ H E I d st m;subst p hw hK;obtain⟨l,f1,f2,f,g,j⟩:=d it (by simp);exact Ho (I.ok.hd hc) st (by have:n<=i:=m;lia) fun h' y=>⟨rfl,I.turned (t':=s.toks) (fun b o hb e=>y b o hb e) l f1 f g j⟩
 self:=fun _ _ _ _ _ st h=>Hq st h
theorem a6p(f : -1000000<=a)(d:a<1000000)(e : -1000000<=b)(g:b<1000000):IB a b 2=true:=by
 have c:∀{x:Int},-10000000<=x->x<10000000->FE x=true:=fun {x} y z=>by
  unfold FE;simp only[BR,decide_eq_true_eq]
  lia
 have sz:Ci a b 2=(((b-a+1) / 2).toNat:Int):=by
  unfold Ci;rw[if_pos (by decide)];split<;>lia
 unfold IB;rw[sz,c (by lia) (by lia),c (by lia) (by lia),c (by decide) (by decide),c (by lia) (by lia),if_pos (by decide),c (by lia) (by lia)];simp
theorem acf{x:Int}:Fy x 2=false:=by
 unfold Fy;have:decide ((if ((2:Int)==0)=true then 0 else (2:Int).natAbs.log2 / 30+1)>300)=false:=by decide
 simp only[this,Fq]
theorem a90:Ci a b 2=(((b-a+1) / 2).toNat:Int):=by
 unfold Ci;rw[if_pos (by decide)];split<;>lia
theorem a7v{lo:Int}{t:Tok}(I:Inv X a σ H s)(i : -1000000<=lo)(d:lo<1000000)(g : -1000000<=hi)(j:hi<1000000)(q:R (Itr2 lo ((hi-lo+1) / 2).toNat) H):KC (KE X.prog X.w) X.A (pyIter (.ref s.heap.objs.size)) (PIE X a σ l R) E {s with heap:=s.heap.push {cls:=.type "range",data:=.fields #[.int lo t,.int hi u,.int 2 v]},toks:=tk}:=by
 refine II (Kc ..) (a6p i d g j) ?_;have c:Inv X a σ H {s with heap:=s.heap.push {cls:=.type "range",data:=.fields #[.int lo t,.int hi u,.int 2 v]},toks:=tk}:=I.kept fun b o e=>Ac _ e;refine⟨(s.heap.push {cls:=.type "range",data:=.fields #[.int lo t,.int hi u,.int 2 v]}).objs.size,[(s.heap.push {cls:=.type "range",data:=.fields #[.int lo t,.int hi u,.int 2 v]}).objs.size],_,_,H,rfl,
  c.kept (t':=tk) fun b o e=>Ac _ e,a3a _ lo ((hi-lo+1) / 2).toNat,?_,fun b hb=>?_,q⟩
 . have h:lo+((0:Nat):Int)*2=lo:=by simp
   have f:((((hi-lo+1) / 2).toNat:Nat):Int)-((0:Nat):Int)=Ci lo hi 2:=by rw[a90];lia
   show IsRangeIter _ _ (lo+((0:Nat):Int)*2) (((((hi-lo+1) / 2).toNat:Nat):Int)-((0:Nat):Int)) 2;rw[h,f];exact An _ rfl
 . obtain rfl:b=(s.heap.push {cls:=.type "range",data:=.fields #[.int lo t,.int hi u,.int 2 v]}).objs.size:=by simpa using hb
   exact c.fpOk (Aj _) (c.hok.fresh (Aj _))
noncomputable def abj(ta:TA):TI:=fun σ H R=>ta σ H fun vs H1=>∃i j:Int,vs=[.int i,.int j,.int 2]/\(-1000000<=i/\i<1000000 /\ -1000000<=j/\j<1000000)/\R (Itr2 i ((j-i+1) / 2).toNat) H1
theorem a8o(v:Gl X "range")(hm:X.mg "range"=none)(ha:PA X [a,b,c] y)(hs:autoParam (KD [a,b,c] X.env=[(false,eval a X.env),(false,eval b X.env),(false,eval c X.env)]) a3_)(d:autoParam (KD [b,c] X.env=[(false,eval b X.env),(false,eval c X.env)]) a3_):
 PI X A (.Call (.Name "range" p) [a,b,c] [] pos) (abj y):=by
 intro f s σ H R I h;refine Call_ (oe I v hm boot_range (BH (thn (ha pos f s σ H _ I h) fun us C ⟨vs,z,n,l,g⟩=>?_) (by rw[hs,d]) (by rw[d];rfl)));obtain⟨i,j,e,⟨g,o,u,w⟩,q⟩:=g;subst e;cases l with
 | cons r rr =>
  cases rr with
  | cons r' rr =>
   cases rr with
   | cons r'' rr =>
    cases rr;obtain⟨t,rfl⟩:=r;obtain⟨t',rfl⟩:=r';obtain⟨m,rfl⟩:=r'';exact call_range_3 (by decide) (a7v n g o u w q) (.inl acf)
theorem a69(e:Gl X "range")(hm:X.mg "range"=none)(ha:QA X [a,b,c] f)(hs:autoParam (KD [a,b,c] X.env=[(false,eval a X.env),(false,eval b X.env),(false,eval c X.env)]) a3_)(d:autoParam (KD [b,c] X.env=[(false,eval b X.env),(false,eval c X.env)]) a3_):QI X g (.Call (.Name "range" p) [a,b,c] [] pos) (abj f):=⟨a8o e hm ha.run hs d⟩
theorem a50{lo:Int}{g:TG}{h:TS}{D:Ends}(a:Nat->St->Hp->Prop)(h0:a 0 σ H)(hs:∀i σ H,i<n->a i σ H->g (.int (lo+i*2)) σ H fun b e=>h {D with nx:=a (i+1),ct:=a (i+1),bk:=D.nx} b e)(hd:∀σ H,a n σ H->D.nx σ H):
 ∃W:Nat->Nat->St->Hp->Prop,(∃m,W 0 m σ H)/\∀i m σ H,W i m σ H->
  ((Itr2 lo n).stop i H/\D.nx σ H)\/((Itr2 lo n).go i H/\∃N:St->Hp->Prop,(∀d H',N d H'->∃f,f<m/\W (i+1) f d H')/\∀x H',(Itr2 lo n).yld i H x H'->g x σ H' fun b e=>h {D with nx:=N,ct:=N,bk:=D.nx} b e):=by
 refine⟨fun i m σ H=>m=n-i/\i<=n/\a i σ H,⟨n,rfl,AH _,h0⟩,?_⟩;rintro i m σ H ⟨rfl,hi,hp⟩;by_cases c:i<n
 . refine .inr ⟨c,a (i+1),fun d H' z=>⟨n-(i+1),by lia,rfl,c,z⟩,fun x H' y=>?_⟩;obtain⟨rfl,rfl⟩:=y;exact hs i σ _ c hp
 . obtain rfl:i=n:=by lia
   exact .inl ⟨Aj _,hd σ H hp⟩
noncomputable def Itk(a:KA)(od:Obj)(kvs:List (Key×V)):It where
 go:=fun i H=>H a=some (.frz od (.dK kvs))/\i<kvs.length
 yld:=fun i H x H'=>H'=H/\(kvs.map fun kv=>kV kv.1)[i]?=some x
 stop:=fun i H=>H a=some (.frz od (.dK kvs))/\kvs.length<=i
noncomputable def abr(od:Obj)(kvs:List (Key×V))(es:Array DictEntry)(ep:Nat):Prop:=od.ExactDict/\od.data=.dict es ep/\KI (fun (p:Key×V) (e:DictEntry)=>RelV (kV p.1) e.key) kvs es.toList
theorem a7n{P:KZ}{w:KY}{od:Obj}{es:Array DictEntry}{ep:Nat}:∀{kvs:List (Key×V)}{vs:List (Key×KB)}{l:List DictEntry},KV kvs vs->PySem.Pairs (jj P w) l vs->KI (fun (p:Key×V) (e:DictEntry)=>RelV (kV p.1) e.key) kvs l
 | _,_,_,.nil,.nil=>.nil
 | _,_,_,.cons h t,.cons h1 h2 t2=>.cons (by rw[h.1];exact a4k h1) (a7n (od:=od) (es:=es) (ep:=ep) t t2)
theorem Paired.nthK:∀{l₁:List α}{l₂:List β}{i:Nat}{a:α}{b:β},KI F l₁ l₂->l₁[i]?=some a->l₂[i]?=some b->F a b
 | _,_,0,_,_,.cons h t,h1,h2=>by cases h1;cases h2;exact h
 | _,_,i+1,_,_,.cons h t,h1,h2=>Paired.nthK (i:=i) t (by simpa using h1) (by simpa using h2)
theorem ada{K:Ab}(hd:abr od kvs es ep):
 Turn P w K tg (Itk a od kvs) [J] J (fun i h=>h.IsKeyIter J a i es.size ep) where
 mem:=by simp
 obj:=fun i h st b hb=>by
  have e:b=J:=by simpa using hb
  subst e;obtain⟨o,h1,h2,h3⟩:=st;exact⟨o,h1,fun v z=>by rw[h3] at z;cases z⟩
 keep:=fun i h h' st k=>by
  obtain⟨o,h1,h2⟩:=st;exact⟨o,k J (by simp) o h1,h2⟩
 item:=by
  intro X hP hw hK hc i pins s σ H E I hf st hg;subst hP hw hK;obtain⟨f0,f1,f2,f3,f4,f5⟩:=hf J (by simp);obtain⟨g1,g2⟩:=I.hok a _ hg.1;have hsz:es.size=kvs.length:=by
   have:=hd.2.2.length;rw[Bj] at this;exact this.symm
  refine a2a st g1 hd.2.1 (I.ok.hd hc) (fun hn h' st' sb=>?_) (fun hn=>absurd hg.2 (by lia));have I1:Inv X pins σ H {s with heap:=h',toks:=s.toks}:=I.turned (fun b o hb e=>(sb.2 b hb).trans e) f0 f1 f3 f4 f5;have hk:RelV (kV (kvs[i]'hg.2).1) es[i].key:=Paired.nthK (F:=fun (p:Key×V) (e:DictEntry)=>RelV (kV p.1) e.key) hd.2.2 (i:=i) (a:=kvs[i]'hg.2) (b:=es[i]) (Af hg.2) (by rw[BO];exact Gf hn);refine⟨_,rfl,letGo_keyiter st' ⟨kV (kvs[i]'hg.2).1,H,I1,hk,⟨rfl,by rw[Am,Af hg.2];rfl⟩,st',fun b hb=>(hf b hb).1⟩⟩
 done:=by
  intro X hP hw hK hc i pins s σ H E I hf st hg;subst hP hw hK;obtain⟨f0,f1,f2,f3,f4,f5⟩:=hf J (by simp);obtain⟨g1,g2⟩:=I.hok a _ hg.1;have hsz:es.size=kvs.length:=by
   have:=hd.2.2.length;rw[Bj] at this;exact this.symm
  exact a2a st g1 hd.2.1 (I.ok.hd hc) (fun hn=>absurd hg.2 (by lia)) (fun _ h' eb=>⟨rfl,I.turned (t':=s.toks) (fun b o hb e=>eb b o hb e) f0 f1 f3 f4 f5⟩)
 self:=fun _ _ _ _ _ st h=>wpAny_pyIter_keyiter st h
noncomputable def a6w(X:Cx)(tl:TE):TI:=fun σ H R=>tl σ H fun x H1=>∃a kvs,x=.ref a/\H1 a=some (.dK kvs)/\∀od,NF X a->R (Itk a od kvs) (upd H1 a (.frz od (.dK kvs)))
theorem aab{X:Cx}{A l:Expr}{tl:TE}(hl:PE X l tl):PI X A l (a6w X tl):=by
 intro d s σ H R I h;refine thn (hl d s σ H _ I h) fun v c ⟨x,i,j,u,a,kvs,ex,e,q⟩=>?_;subst ex;cases u;obtain⟨z,hd,vs,rel,od,es,ep,f,hc,g,y,p,r⟩:=(show ObjOk X.prog X.w i c.heap a (.dK kvs) from j.hok a _ e)
 have m:Inv X d σ (upd i a (.frz od (.dK kvs))) c:=j.write (x:=a) (e:=a) (h':=c.heap) (t':=c.toks) (by rw[e];exact True.intro) (.inl rfl) (fun _ _ _ z=>z) ⟨od,f⟩ ⟨f,z,hd,vs,rel,od,es,ep,f,hc,g,y,p,r⟩;have n:abr od kvs es ep:=⟨hc,g,a7n (od:=od) (es:=es) (ep:=ep) rel p⟩
 refine a9p hd f hc g ?_;refine⟨c.heap.objs.size,[c.heap.objs.size],_,_,upd i a (.frz od (.dK kvs)),rfl,m.kept (t':=c.toks) fun b o e=>Ac _ e,ada n,⟨_,An _ rfl,rfl,rfl⟩,fun b hb=>?_,q od (j.nf e fun _ _ z=>nomatch z)⟩;have e:b=c.heap.objs.size:=by simpa using hb
 subst e;exact m.fpOk (Aj _) (m.hok.fresh (Aj _))
theorem aay(hl:QE X l tl):QI X a l (a6w X tl):=⟨aab hl.run⟩
open PySem.Builtin
noncomputable def a3v(K:Ab)(J:It)(H1:Hp)(σ:St)(ix:List Nat)(tc:TT)(te:TE)(Q:VK):Prop:=∀D,H1 D=none->
 ∃W:Nat->Nat->Hp->Prop,(∃m,W 0 m (upd H1 D (.lst [])))/\∀i m H,W i m H->
  (J.stop i H/\Q (.ref D) H)\/(J.go i H/\∀x H',J.yld i H x H'->∃p a b,x=.ref p/\SqT K H' p [a,b]/\tc (some a::some b::j6 σ ix) H' fun c H2 =>
   if c=true then te (some a::some b::j6 σ ix) H2 fun y H3=>∃ys,H3 D=some (.lst ys)/\ys.length<KF/\∃m',m'<m/\W (i+1) m' (upd H3 D (.lst (ys++[y])))
   else ∃m',m'<m/\W (i+1) m' H2)
noncomputable def a8a(K:Ab)(ix:List Nat)(wi:TI)(tc:TT)(te:TE):TE:=fun σ H Q=>wi σ H fun J H1=>a3v K J H1 σ ix tc te Q
theorem aa4{x:Str}(I:Inv X E σ H s)(n:G.kind=.function)(U:N=x::x2::A.map fun j=>(X.N[j]?).getD "")(d:∀y c,cl.lookup y=some c->X.env.cells.lookup y=some c)(h:∀y,((KS G X.env).names.lookup y=some .cell\/(KS G X.env).names.lookup y=some .free)->∃c,cl.lookup y=some c)(R:∀j∈A,∃y,X.N[j]?=some y/\X.env.kindOf y=some .cell/\(KS G X.env).names.lookup y=some .cell)(g:∀b∈W,FpOk X E H b)(T:∀b∈W,b<s.heap.objs.size)(Q:M.Ns s.heap.objs.size m)(F:∀b o,s.heap.get? b=some o->M.get? b=some o):
 Inv (blk X N s H G cl s.heap.objs.size W) [] (none::none::j6 σ A) H {s with heap:=M,toks:=tk}:=by
 have fresh:H s.heap.objs.size=none:=I.hok.fresh (Aj _);refine⟨⟨I.ok.mod,n,I.ok.glob,I.ok.blt,Aj _,fun y z c M Y=>I.ok.inj y z c (d y c M) (d z c Y),fun y J=>h y J,fun y c z _=>absurd (show false=true from z) (by decide),I.ok.hd,I.ok.frames,.inl rfl,
  fun b hb=>⟨AC (T b hb),fun y c e=>(g b hb).2.2.2.2.1 y c (d y c e)⟩,I.bs,Aw I.ok.bsz I.sz,fun b o e hb=>?_,fun b hb z=>?_,I.stack,I.stkFree⟩,
  rfl,I.bare,Un.kept F,⟨m,Q,fun i y v e1 O e3=>?_⟩,fun y c e=>?_,fresh,fun y c e=>I.freeC y c (d y c e),fun p hp=>absurd (show p∈([]:List (KA×Obj)) from hp) (by simp),I.hok.kept F,?_⟩
 . rcases (g b hb).2.2.2.1 with z|z
   . exact I.ok.noex b o e z
   . exact absurd (AK (Ar e) (Aw I.ok.bsz z)) (Bz _)
 . rcases Ah.mp (I.stkSub b z) with q|q
   . exact (g b hb).2.1 q
   . exact (g b hb).2.2.1 q
 . cases i with
   | zero =>
    have a:(some none:Option (Option V))=some (some v):=O;cases a
   | succ i =>
    cases i with
    | zero =>
     have a:(some none:Option (Option V))=some (some v):=O;cases a
    | succ i =>
     have a:(j6 σ A)[i]?=some (some v):=by simpa using O
     unfold j6 at a;rw[Am] at a;cases q:A[i]? with
     | none=>rw[q] at a;cases a
     | some j =>
      rw[q] at a;have f:(σ[j]?).getD none=some v:=by simpa using a
      have e4:σ[j]?=some (some v):=by
       cases q2:σ[j]? with
       | none=>rw[q2] at f;cases f
       | some w=>rw[q2] at f;simpa using f
      obtain⟨L,J,hc,hr⟩:=R j (AE q);have Z:L=y:=by
       have C:N[i+1+1]?=some y:=e1;rw[U,Ex,Ex,Am,q] at C;have:=Au C;simpa [J] using this
      subst Z;obtain⟨m0,aa,S⟩:=I.loc;obtain⟨u,r,l⟩:=S j L v J e4 (.inr (.inl hc));refine⟨u,r,.inr ⟨.inl hr,?_⟩⟩;rcases l with⟨k,_⟩|⟨_,c,ec,ic⟩
      . rw[hc] at k;cases k
      . obtain⟨c',D⟩:=h L (.inl hr);have:=d L c' D;rw[ec] at this;cases this;obtain⟨o,P,hd⟩:=ic;exact⟨c,D,o,F c o P,hd⟩
 . obtain⟨v,o,P,hd⟩:=I.cell y c (d y c e);exact⟨v,o,F c o P,hd⟩
 . show (none::none::j6 σ A).length=N.length;rw[U];simp[j6]
theorem a8w{x:Str}(N:List Str)(hc:X.calm=true)(hi:PI X (.Tuple [.Name x px,.Name x2 aa] kt U) G wi)(ax:∀s H C ex,PTs (blk X N s H g cl C ex) an tc)(he:∀s H C ex,PE (blk X N s H g cl C ex) ab te)(E:g.kind=.function)(hN:N=x::x2::ix.map fun j=>(X.N[j]?).getD "")(hnd:N.Nodup)(L:g.names.lookup x=some .local)(ac:g.names.lookup x2=some .local)(ar:closureFor g X.env=pure cl)(R:∀y∈g.names,y.2≠.cell)(O:∀y∈g.names,y.2=.local->g.names.lookup y.1=some .local)(aj:∀y c,cl.lookup y=some c->X.env.cells.lookup y=some c)(am:∀y,((KS g X.env).names.lookup y=some .cell\/(KS g X.env).names.lookup y=some .free)->∃c,cl.lookup y=some c)(au:∀j∈ix,∃y,X.N[j]?=some y/\X.env.kindOf y=some .cell/\(KS g X.env).names.lookup y=some .cell)(hs:autoParam (∀x,KM G X.env x=pure x) a2_):
 PE X (.ListComp ab [⟨.Tuple [.Name x px,.Name x2 aa] kt U,G,an,0⟩] g pos) (a8a X.K ix wi tc te):=by
 intro l s σ H Q I h;rw[eval_ListComp];refine Gj (use:=none) rfl hs ar E O (thn (hi l s σ H _ I h) fun v s1 h1=>thn h1 fun aL f h2=>?_);obtain⟨it,D,tn,J,M,e,I2,T,ak,f2,q2⟩:=h2;subst e;have aI:M f.heap.objs.size=none:=I2.hok.fresh (Aj _);obtain⟨W,⟨m0,w0⟩,turn⟩:=q2 f.heap.objs.size aI;refine AX ?_;have I3:Inv X l σ (upd M f.heap.objs.size (.lst [])) {f with heap:=f.heap.push {cls:=.type "list",dict:=none,data:=.seq ([]:List KB).toArray}}:=by
  exact I2.lnew (its:=[]) (ys:=[]) (t':=f.toks) .nil (AH _)
 have ao:∀b∈D,b<f.heap.objs.size:=fun b hb=>by
  obtain⟨o,ho,_⟩:=T.obj _ _ ak b hb;exact Ar ho
 have f3:∀b∈D,FpOk X l (upd M f.heap.objs.size (.lst [])) b:=fun b hb=>⟨by rw[f6 (AC (ao b hb))];exact (f2 b hb).1,(f2 b hb).2⟩
 generalize hs3:({f with heap:=f.heap.push {cls:=.type "list",dict:=none,data:=.seq ([]:List KB).toArray}}:KG)=a at I3;have aq:f.heap.objs.size<=a.heap.objs.size:=by rw[<- hs3];show _<=(f.heap.push _).objs.size;rw[Br];exact Bs _
 have av:tn 0 a.heap:=T.keep _ _ _ ak fun b _ o e=>by rw[<- hs3];exact Ac _ e
 have al:∀b∈D,b<a.heap.objs.size:=fun b hb=>AK (ao b hb) aq;refine Ik R (by intro y hy;simp at hy) (fun h4 ai af=>?_) E;have old:∀b o,a.heap.get? b=some o->h4.get? b=some o:=fun b o e=>af.extBut b o (AC (Ar e)) (Ac _ e);have I4:=aa4 (m:=_) (tk:=a.toks+([]:List (Str×KB)).length) (N:=N) I3 E hN aj am au f3 al ai old;have ah:tn 0 h4:=T.keep _ _ _ av fun b _ o e=>old b o e;have P:∀{H':Hp},(∀b∈D,H' b=none)->∀b∈D,FpOk (blk X N a (upd M f.heap.objs.size (.lst [])) g cl a.heap.objs.size D) [] H' b:=fun {H'} hn b hb =>
  ⟨hn b hb,AC (al b hb),I4.ok.exfs b hb,.inl hb,fun y c e=>(I4.ok.exf b hb).2 y c e,fun p hp=>absurd (show p∈([]:List (KA×Obj)) from hp) (by simp)⟩
 have loop:Km (KE X.prog X.w) X.A (.compLoop (.ListComp ab [⟨.Tuple [.Name x px,.Name x2 aa] kt U,G,an,0⟩] g pos) 0 (.ref it) (.ref f.heap.objs.size) (compEnvC g cl a.heap.objs.size X.env))
  (compPost (KE X.prog X.w) X.A X.xe none (EP X l σ Q) (.ref f.heap.objs.size) a.heap.objs.size) {a with heap:=h4,toks:=a.toks+([]:List (Str×KB)).length}:=by
  refine xv (fun n s'=>∃i v0 v1 H',Inv (blk X N a (upd M f.heap.objs.size (.lst [])) g cl a.heap.objs.size D) [] (v0::v1::j6 σ ix) H' s'/\tn i s'.heap/\(∀b∈D,H' b=none)/\W i n H') ?_ m0
   ⟨0,none,none,_,I4,ah,fun b hb=>(f3 b hb).1,w0⟩
  rintro n s5 ⟨i,v0,v1,H5,I5,ag,ap,w5⟩;rcases turn i n H5 w5 with⟨stop,qn⟩|⟨go,step⟩
  . refine thn (T.done (blk X N a (upd M f.heap.objs.size (.lst [])) g cl a.heap.objs.size D) rfl rfl rfl hc i [] s5 _ H5 _ I5 (P ap) ag stop) fun r s6 ⟨hr,I6⟩=>?_;subst hr;obtain⟨mm,hm,_⟩:=I6.loc;refine⟨mm,hm,fun h7 aC=>?_⟩;have I7:Inv X l σ H5 {s6 with heap:=h7}:=by
     have hC:H5 a.heap.objs.size=none:=I6.free;have aK:a.heap.get? a.heap.objs.size=none:=EZ (Aj _);have up:∀b o,b≠a.heap.objs.size->s6.heap.get? b=some o->h7.get? b=some o:=fun b o hb e=>aC.extBut b o hb e;have Y:∀b o,a.heap.get? b=some o->b≠a.heap.objs.size:=fun b o e=>AC (Ar e);have u:=I6.base;refine I3.call' (s':={s6 with heap:=h7}) (ch:=D) I6.os ⟨fun b o e n hb L=>?_,fun b o e n hb L=>?_,fun b o e n L=>u.free b o e n L,fun b o e L=>?_,u.tups,u.frzs,u.tbls⟩ (fun b o e=>?_) I6.bare fun b hb=>⟨(f3 b hb).2.2.2.1,(f3 b hb).2.1,(f3 b hb).2.2.2.2.1,(f3 b hb).2.2.2.2.2⟩
     . exact up b o (Y b o e) (u.keep b o e n hb L)
     . obtain⟨sl,e1⟩:=u.slot b o e n hb L;exact⟨sl,up b _ (Y b o e) e1⟩
     . obtain⟨o',e1⟩:=u.there b o e L;exact⟨o',up b _ (Y b o e) e1⟩
     . refine (I6.hok b o e).stay (fun c v az q=>up c v ?_ q) (fun _ q=>q) fun _ _ q=>q;rintro rfl;rcases az with z|z
       . rw[<- z,hC] at e;cases e
       . rw[hC] at z;cases z
    exact⟨.ref f.heap.objs.size,H5,I7,rfl,qn⟩
  . refine thn (T.item (blk X N a (upd M f.heap.objs.size (.lst [])) g cl a.heap.objs.size D) rfl rfl rfl hc i [] s5 _ H5 _ I5 (P ap) ag go) fun r s6 ⟨u,hr,h6⟩=>?_;subst hr;refine thn h6 fun _ s7 ⟨y,H7,I7,r7,y7,S,aB⟩=>?_;have aA:=I7.pinned (P aB) (T.obj _ _ S);obtain⟨pp,ya,yb,rfl,aH,Z⟩:=step y H7 y7;have aE:PG (blk X N a (upd M f.heap.objs.size (.lst [])) g cl a.heap.objs.size D) (.Tuple [.Name x px,.Name x2 aa] kt U) (gTup X.K 2 (mx (gt 0) (mx (gt 1) gNil))) :=
     a1q hc (ko (xh (i:=0) hnd (by show N[0]?=some x;rw[hN];rfl) (.inl (Cv L)) (.inr (Cv L))) (ko (xh (i:=1) hnd (by show N[1]?=some x2;rw[hN];rfl) (.inl (Cv ac)) (.inr (Cv ac))) wc))
    refine thn (aE _ s7 _ H7 (.ref pp) _ (fun σ' H'=>σ'=some ya::some yb::j6 σ ix/\H'=H7) aA r7 ⟨pp,_,rfl,aH,rfl,_,_,rfl,_,_,rfl,rfl,rfl,rfl⟩) fun _ s8 ⟨σ8,H8,I8,eσ,eH⟩=>?_;subst eσ eH;refine thn (ax _ _ _ _ _ s8 _ H8 _ I8 Z) fun ok s9 ⟨H9,I9,q9⟩=>?_;have F:∀{H':Hp} {s':KG} {m':Nat},Inv (blk X N a (upd M f.heap.objs.size (.lst [])) g cl a.heap.objs.size D) ([]++qb D s7.heap) (some ya::some yb::j6 σ ix) H' s'->m'<n->W (i+1) m' H'->
     ∃m,m<n/\∃i v0 v1 H',Inv (blk X N a (upd M f.heap.objs.size (.lst [])) g cl a.heap.objs.size D) [] (v0::v1::j6 σ ix) H' s'/\tn i s'.heap/\(∀b∈D,H' b=none)/\W i m H':=fun {H' s' m'} Ia hm wa=>by
     refine⟨m',hm,i+1,some ya,some yb,H',Ia.unpinned,T.keep _ _ _ S fun b hb o e=>(Ia.pin (b,o) (AG _ (AG _ (mo hb e)))).1,fun b hb=>?_,wa⟩;obtain⟨o,e,d⟩:=T.obj _ _ S b hb;exact (Ia.pin (b,o) (AG _ (AG _ (mo hb e)))).2.1
    cases ok with
    | false =>
     rw[if_neg Ak] at q9 |-;obtain⟨m',hm,wa⟩:=q9;exact F I9 hm wa
    | true =>
     rw[if_pos rfl] at q9 |-;refine thn (he _ _ _ _ _ s9 _ H9 _ I9 q9) fun aJ aG ⟨z,ae,aF,ay,ys,hD,hl,m',hm,wa⟩=>?_;exact thn (jo _ aG _ ae (.ref f.heap.objs.size) [z] (.ref f.heap.objs.size) [aJ] (fun _ H'=>H'=upd ae f.heap.objs.size (.lst (ys++[z]))) aF rfl (.cons ay .nil) ⟨_,ys,z,rfl,rfl,hD,hl,rfl⟩)
      fun _ aN ⟨_,aM,aD,_,aw⟩=>F aD hm (by rw[aw];exact wa)
 subst hs3;exact Hv loop (T.self _ 0 _ _ _ ah loop)
theorem a71{x:Str}{K:Ab}(hK:X.K=K)(N:List Str)(n:List Nat)(hi:QI X (.Tuple [.Name x px,.Name f v] F q) c E)(r:∀s H C ex,QTs (blk X N s H a cl C ex) h I)(w:∀s H C ex,QE (blk X N s H a cl C ex) g G)(m:autoParam (closureFor a X.env=pure cl) a3_)(i:autoParam (ClIn X.env.cells cl) a10_)(A:autoParam (N=x::f::n.map (fun j=>(X.N[j]?).getD "")) a3_)(hnd:autoParam (N.Nodup) a1_)(l:autoParam (cl.map (·.1)=N.tail.tail) a3_)(u:autoParam (((KS a X.env).names.all fun y=>(match y.2 with|.cell=>false|.free=>false|_=>true) || decide (y.1∈N.tail.tail))=true) a4_)(p:autoParam (IxIn X a n) a10_)(D:autoParam (a.names.lookup x=some .local) a1_)(o:autoParam (a.names.lookup f=some .local) a1_)(d:autoParam (∀z∈a.names,z.2≠.cell) a1_)(b:autoParam (∀z∈a.names,z.2=.local->a.names.lookup z.1=some .local) a1_)(hc:autoParam (X.calm=true) a3_)(e:autoParam (a.kind=.function) a3_)(hs:autoParam (∀x,KM c X.env x=pure x) a2_):
 QE X (.ListComp g [⟨.Tuple [.Name x px,.Name f v] F q,c,h,0⟩] a pos) (a8a K n E I G):=by
 subst hK;exact⟨a8w N hc hi.run (fun s H C ex=>(r s H C ex).run) (fun s H C ex=>(w s H C ex).run) e A hnd D o m d b (a2r i.all) (a27 l u) p.all hs⟩
end L2
namespace L2
abbrev rQ(a:KA):Option V:=some (.ref a)
abbrev iQ(a:Int):Option V:=some (.int a)
abbrev nQ:Option V:=none
end L2
namespace Ka
open PySem PyProof.Rows
theorem a05:typeLookup (.type "list") "keys"=pure none:=by rw[CP,Cd];kernel_rfl
theorem a4t:typeLookup (.type "list") "__getattr__"=pure none:=by rw[CP,Cd];kernel_rfl
theorem uf:isSubtype (.type "AttributeError") (.type "AttributeError")=pure true:=by rw[Et];kernel_rfl
set_option maxHeartbeats 16000000 in
theorem a5a{t:Nat}{os:OsState}(r:A.handled=none)(q:h.get? a=some {cls:=.type "list",dict:=none,data:=.seq xs n,slots:=y})(hq:∀h' e t',(∀b u,h.get? b=some u->h'.get? b=some u)->(∃c,h'.get? e=some c/\c.cls=.type "AttributeError")->h.objs.size<=h'.objs.size->E (.ref e) ⟨h',g,d,t',os⟩):
 KC (KE prog w) A (Builtin.«object.__getattribute__» ⟨[.ref a,.str "keys" tk],[]⟩) Q E ⟨h,g,d,t,os⟩:=by
 have z:(⟨h,g,d,t,os⟩:KG).TypeIs (.ref a) "list" := ⟨_,q,rfl⟩
 have s:=a05
 repeat (any_goals (first|assumption|wp_step))
 have hm:(Bf (toString "'" ++ toString ((Fz "list").elim "list" fun x=>x.tpName)++toString "' object has no attribute '")++Bf "keys" ++ Bf "'").length<=KF:=by decide
 generalize (Bf (toString "'" ++ toString ((Fz "list").elim "list" fun x=>x.tpName)++toString "' object has no attribute '")++Bf "keys" ++ Bf "'")=j at hm |-;unfold raiseAttrError
 repeat (any_goals (first|assumption|wp_step))
 have v:isSubtype (.type "AttributeError") (.type "AttributeError")=pure true:=uf;dsimp only
 repeat (any_goals (first|assumption|wp_step))
 generalize hO:({cls:=Value.type "AttributeError",data:=_}:Obj)=c;generalize hT2:({cls:=Value.type "tuple",data:=Data.seq #[Value.str j t]}:Obj)=o;have f:c.cls=.type "AttributeError" := by rw[<- hO]
 have l:∃vs,c.data=.fields vs:=⟨_,by rw[<- hO]⟩
 obtain⟨vs,i⟩:=l;have p:((h.push o).push c).get? (h.push o).objs.size=some c:=An _ (by rw[<- hO];rfl);refine Fo r (hq _ _ _ (fun b u hb=>?_) ⟨_,B9 _ p (DM (CL i _)),(EG ..).trans f⟩ ?_)
 . have m:=Ar (Ac o hb);rw[ID _ _ _ _ (AC m)];exact Ac _ (Ac _ hb)
 . rw[Jt,size_push',size_push'];lia
set_option maxHeartbeats 16000000 in
theorem attr{t:Nat}{os:OsState}(o:A.handled=none)(f:h.get? a=some {cls:=.type "list",dict:=none,data:=.seq xs n,slots:=v})(hq:∀h' t',(∀b u,h.get? b=some u->h'.get? b=some u)->h.objs.size<=h'.objs.size->Q none ⟨h',g,d,t',os⟩):KC (KE prog w) A (getAttr? (.ref a) "keys") Q E ⟨h,g,d,t,os⟩:=by
 have y:(⟨h,g,d,t,os⟩:KG).TypeIs (.ref a) "list" := ⟨_,f,rfl⟩
 have c:(⟨h,g,d,t+1,os⟩:KG).TypeIs (.ref a) "list" := ⟨_,f,rfl⟩
 have f2:=F.slot_list_getattribute.lookup;have r:=F.slot_list_getattribute.bind (.ref a);have s:isSubtype (.type "AttributeError") (.type "AttributeError")=pure true:=uf;unfold getAttr? getAttrBy?
 repeat (any_goals (first|assumption|wp_step))
 refine DS F.slot_list_getattribute.plain F.entry_list_ga (F.slot_list_getattribute.check _ _ _ _ _ _ _ _ c (F.args_list_getattribute_2 _ _) (a5a ?_ f fun h' e t' k m hs=>?_))
 . exact o
 obtain⟨z,i,j⟩:=m;have p:(⟨h',g,d,t',os⟩:KG).TypeIs (.ref e) "AttributeError" := ⟨_,i,j⟩
 have q:=a4t;have l:=hq h' t' k hs;show KC (KE prog w) A (getattributeRaised (Value.ref a) (Value.str (Bf "keys") t) (Value.type "list") (.ref e) none false false) _ _ _
 repeat (any_goals (first|assumption|wp_step))
end Ka
namespace Ka
open PySem
theorem plain_loop:plainId "dict.update.loop"=true:=by decide
theorem entry_loop:entryFor table "dict.update.loop"=some Builtin.«dict.update.loop» := entryFor_of_fast (by kernel_rfl)
end Ka
namespace L2
open PyProof.Rows
noncomputable def kk(kv:Str×V):Key×V:=(Sum.inr kv.1,kv.2)
section
noncomputable def Hd(H:Hp)(p:KA)(kvs:List (Str×V))(i:Nat):Hp:=upd H p (.dK ((kvs.take i).map kk))
variable{kvs:List (Str×V)} in
theorem abz:∀{kvs:List (Str×V)}{x:Str},¬ x∈kvs.map (·.1)->valV (kvs.map kk) (Sum.inr x)=none:=by grind [valV,kk]
theorem a5y{kvs:List (Str×V)}(hn:(kvs.map (·.1)).Nodup)(hi:kvs[i]?=some kv):putK ((kvs.take i).map kk) (Sum.inr kv.1) kv.2=(kvs.take (i+1)).map kk:=by
 rw[BY,hi,Ax,a9h]
 . rfl
 . refine abz fun z=>?_;obtain⟨c,rfl⟩:=Az.mp hi;rw[FS] at z;obtain⟨j,a⟩:=DU z;have b:=(Az.mp a).1;rw[AQ,Ad] at b;rw[Dh (by lia)] at a;have e:(kvs.map (·.1))[i]?=some kvs[i].1:=by rw[Am,hi];rfl
   have:=(Jk (by rw[Ad];lia) hn).mp (a.trans e.symm)
   lia
theorem se{K:Ab}(e:Same H H')(h:SqL K H l xs):SqL K H' l xs:=by
 rcases h with (h|⟨o,h⟩)|h
 . exact .inl (.inl (e _ _ h))
 . exact .inl (.inr ⟨o,e _ _ h⟩)
 . exact .inr h
variable{a:KA} in
theorem abv{α β:Type}{F:α->β->Prop}:∀{l₁:List α}{l₂:List β}{i:Nat}{a:α}{b:β},KI F l₁ l₂->l₁[i]?=some a->l₂[i]?=some b->F a b
 | _,_,0,_,_,.cons h r,e1,e2=>by cases e1;cases e2;exact h
 | _,_,i+1,_,_,.cons h r,e1,e2=>abv (i:=i) r (by simpa using e1) (by simpa using e2)
theorem a8s(hh:A.handled=none)(hp:H p=none)(hl:SqL X.K H a (ts.map V.ref))(j:KI (fun t (kv:Str×V)=>SqT X.K H t [.str kv.1,kv.2]) ts kvs)(hn:(kvs.map (·.1)).Nodup)(hz:ts.length<=1000)(D:it≠p):
 ∀(k i:Nat) (s:KG),kvs.length-i=k->i<=kvs.length->Inv X d σ (Hd H p kvs i) s->s.heap.IsListIter it a i->(∀b∈[it],FpOk X d (Hd H p kvs i) b)->
   (∀s',Inv X d σ (Hd H p kvs kvs.length) s'->R (.ok (.ret .none)) s')->Km (KE X.prog X.w) A (.builtin "dict.update.loop" ⟨[.ref p,.ref it,.int i 0,.none],[]⟩) R s:=by
 have f:∀i,Same H (Hd H p kvs i):=fun i=>gk hp _;have aa:=Ay j;intro k;induction k with
 | zero =>
  intro i s hk hi I hit E q;have e:i=kvs.length:=by lia
  obtain⟨its,S,pl,_⟩:=I.list (se (f i) hl);have J:=S.length;rw[Ad] at J;refine Bw Ka.entry_loop ?_;rw[AY Ka.plain_loop _];show KC _ A.in1 (Kh (.ref it)>>=_) _ _ s;refine Aa (ET hh hit pl.isList (by rw[Ct,Bx (by lia)]) fun h' N=>?_);have l:Inv X d σ (Hd H p kvs i) {s with heap:=h'}:=I.turnedL (ch:=[it]) (t':=s.toks) (fun b o hb e=>N b o (by simpa using hb) e) E;refine Aa (Ae (Ae (q _ ?_)));rw[<- e];exact l
 | succ k ih =>
  intro i s hk hi I hit E q;have y:i<kvs.length:=by lia
  have g:kvs[i]?=some kvs[i]:=Af y;have ht:ts[i]?=some (ts[i]'(by lia)):=Af _;generalize ts[i]'(by lia)=t at ht;generalize hg:kvs[i]=kv at g;have F:=abv j ht g;obtain⟨its,S,pl,_⟩:=I.list (se (f i) hl);have hx:its[i]?=some (.ref t):=by
   obtain⟨u,hu,ru⟩:=S.get (x:=.ref t) (i:=i) (by rw[Am,ht];rfl);cases ru;exact hu
  refine Bw Ka.entry_loop ?_;rw[AY Ka.plain_loop _];show KC _ A.in1 (Kh (.ref it)>>=_) _ _ s;refine Aa (EH hit pl.isList (by rw[Ct];exact hx) fun h' v U=>?_);have l:Inv X d σ (Hd H p kvs i) {s with heap:=h'}:=I.turnedL (ch:=[it]) (t':=s.toks) (fun b o hb e=>(U.2 b (by simpa using hb)).trans e) E;obtain⟨W,rj,tp,_⟩:=l.tuple ((f i).seqT F);obtain⟨P,O,rfl,r1,r2⟩:∃P O,W=[P,O]/\RelV (.str kv.1) P/\RelV kv.2 O:=by
   cases rj with
   | cons a1 b1=>cases b1 with
    | cons a2 b2=>cases b2;exact⟨_,_,rfl,a1,a2⟩
  obtain⟨⟨c3,d3,ac,ab⟩,m,h,n3,C⟩:=id tp;dsimp only at h C;subst h C;dsimp only;refine Aa (AU ?_);refine Aa (Df ?_);unfold Hy;refine Aa (CJ (T := "tuple") ⟨_,m,rfl⟩ ?_);rw[if_pos (by decide)];refine Aa (Bm m rfl (Ae ?_));refine AU ?_;obtain⟨z,hd,vs,rel,dd⟩:=wu l.hok (show (Hd H p kvs i) p=some (.dK ((kvs.take i).map kk)) from g8);have M:vs.length<=KF:=by rw[<- rel.length];exact z
  refine IE (s:={s with heap:=h'}) (hsz:=M) (sy (k:=Sum.inr kv.1) r1) dd fun Z r n=>?_;have L:Mut ((Hd H p kvs i) p):=by rw[show (Hd H p kvs i) p=some (.dK ((kvs.take i).map kk)) from g8];exact True.intro
  have he:∃q,Z.get? p=some q:=let ⟨q,_,_,hq,_⟩:=r;⟨q,hq⟩;have Q:(putK ((kvs.take i).map kk) (Sum.inr kv.1) kv.2).length<=KF:=by
   have:=pf ((kvs.take i).map kk) (Sum.inr kv.1) kv.2;rw[Ad,AQ] at this;exact BG (l8 (by lia))
  have I2:Inv X d σ (Hd H p kvs (i+1)) {s with heap:=Z,toks:=s.toks+1}:=by
   have:=qq (t':=s.toks+1) (ob:=.dK (putK ((kvs.take i).map kk) (Sum.inr kv.1) kv.2)) l L n he (tz Q hd (rel.put (Sum.inr kv.1) r2) r);rw[a5y hn g] at this;have e:upd (Hd H p kvs i) p (.dK ((kvs.take (i+1)).map kk))=Hd H p kvs (i+1):=by
    funext b;unfold Hd
    by_cases c:b=p
    . rw[c,g8,g8]
    . rw[f6 c,f6 c,f6 c]
   rw[e] at this;exact this
  refine Ae ⟨BC Ka.plain_loop _,ih (i+1) _ (by lia) y I2 ?_ (fun b hb=>?_) q⟩
  . obtain⟨o,g1,g2⟩:=v;exact⟨o,(n.2 it D).trans g1,g2⟩
  . have G:b=it:=by simpa using hb
    subst G;have Y:=E b hb;refine⟨?_,Y.2⟩;have:=Y.1;unfold Hd at this |-;rw[f6 D] at this |-;exact this
noncomputable def aet(K:Ab):List V->Hp->VK->Prop:=fun xs H Q=>∃(a:KA) (ts:List KA) (kvs:List (Str×V)),xs=[V.ref a]/\SqL K H a (ts.map V.ref)/\KI (fun t (kv:Str×V)=>SqT K H t [.str kv.1,kv.2]) ts kvs/\(kvs.map (·.1)).Nodup/\ts.length<=1000/\∀p,H p=none->Q (.ref p) (upd H p (.dK (kvs.map kk)))
theorem zi{K:Ab}(hK:X.K=K)(hc:X.calm=true):ku X (.type "dict") (aet K):=by
 subst hK;intro c s σ H xs us Q I r h;obtain⟨a,ts,kvs,rfl,hl,i,hn,hz,q⟩:=h;obtain⟨u,rfl,J⟩:=ut r;cases J;have E:=Ay i;refine callType_codes (Q₁:=fun obj y=>obj=.ref s.heap.objs.size/\y={s with heap:=s.heap.push {cls:=.type "dict",data:=.dict #[]}}) Ju (Im _) Jl (Jv _ ⟨rfl,rfl⟩) ?_;rintro obj y ⟨rfl,rfl⟩;have fr:H s.heap.objs.size=none:=I.hok.fresh (Aj _);have j:Inv X c σ (upd H s.heap.objs.size (.dK [])) {s with heap:=s.heap.push {cls:=.type "dict",data:=.dict #[]}}:=I.laid (t':=s.toks) (fun b o e=>Ac _ e) (Aj _) (yf _ I.big);have d:(s.heap.push {cls:=.type "dict",data:=.dict #[]}).get? s.heap.objs.size=some {cls:=.type "dict",data:=.dict #[]}:=An _ rfl;refine⟨⟨_,d,rfl⟩,IY _ _,?_⟩;unfold Builtin.«dict.__init__»;refine Aa ?_;unfold Gr;refine Aa (EW ⟨_,d,rfl⟩ ?_);show KC _ _ (pure (s.heap.objs.size,[Value.ref a])) _ _ _;refine Ae ?_;show KC _ _ (Dq "dict.__init__" s.heap.objs.size (.ref a) [] .none) _ _ _;obtain⟨its,R,⟨⟨P,od,N,M⟩,n,l,w,C,D⟩,_⟩:=j.list (se (gk fr _) hl);dsimp only at w C D;subst w C D;unfold Dq;refine Aa (CJ (T := "list") ⟨_,l,rfl⟩ ?_);rw[if_pos (by decide)];refine Aa (Ka.attr (A:=X.A.in1.in1) (show X.A.in1.in1.handled=none from j.ok.hd hc) l fun f t2 k2 O=>?_);rw[if_pos (show (none:Option KB).isNone=true from rfl)];refine Aa (Cp ?_);have m:=k2 _ _ l;have p:Inv X c σ (upd H s.heap.objs.size (.dK [])) {s with heap:=f,toks:=t2}:=j.kept (t':=t2) fun b o e=>k2 b o e;refine Aa (C5 (s:={s with heap:=f,toks:=t2}) (items:=its.toArray) ⟨_,m,rfl,_,rfl⟩ ?_);have g:s.heap.objs.size<f.objs.size:=Ar (k2 _ _ d);have G:Inv X c σ (upd H s.heap.objs.size (.dK [])) {s with heap:=f.push {cls:=.type "list_iterator",data:=.fields #[.ref a,.int 0 0]},toks:=t2}:=p.kept (t':=t2) fun b o e=>Ac _ e;have hit:(f.push {cls:=.type "list_iterator",data:=.fields #[.ref a,.int 0 0]}).IsListIter f.objs.size a 0:=⟨_,An _ rfl,rfl,rfl⟩
 refine Ae ⟨BC Ka.plain_loop _,a8s (kvs:=kvs) (show X.A.in1.handled=none from j.ok.hd hc) fr hl i hn hz (BV g) kvs.length 0 _ rfl (AH _) G hit (fun b hb=>?_) fun s' L=>?_⟩
 . have v:b=f.objs.size:=by simpa using hb
   subst v;exact p.fpOk (Aj _) (by show (upd H s.heap.objs.size (.dK [])) f.objs.size=none;rw[f6 (BV g)];exact p.hok.fresh (Aj _) |> fun z=>by rw[f6 (BV g)] at z;exact z)
 . refine⟨rfl,.ref s.heap.objs.size,_,L,rfl,?_⟩;have:=q s.heap.objs.size fr;unfold Hd;rw[BK];exact this
end
end L2
namespace TS
open PySem PySem.W PyProof.Rows
section
variable{α:Type} in
variable{α β:Type}{N:Nat}{lt:Nat->Nat->Bool} in
variable{α:Type}{N:Nat}{lt:Nat->Nat->Bool} in
variable{α:Type}{N:Nat}{lt:Nat->Nat->Bool} in
structure Ord(N:Nat)(lt:Nat->Nat->Bool):Prop where
 tr:∀i j k,lt i j=true->lt j k=true->lt i k=true
 tot:∀i j,i<N->j<N->i≠j->lt i j=false->lt j i=true
variable{N:Nat}{lt:Nat->Nat->Bool}{p:Array Nat} in
variable{N:Nat}{lt:Nat->Nat->Bool}{p:Array Nat} in
variable{N:Nat}{lt:Nat->Nat->Bool}{p:Array Nat} in
variable{N:Nat}{lt:Nat->Nat->Bool}{p:Array Nat} in
end
section
open L2 HT
variable{prog:KZ}{w:KY}{A:Kq}{s:KG} in
end
end TS
namespace L2
open PyProof.Rows TS
theorem zy(ws:List Str)(p:Str->Bool)(o:JSeq J u (ws.map V.str))(h0:u c)(hz:ws.length<=1000)(hc:∀n∈ws,∀a,Same c a->∀b:Bool->Hp->Prop,(∀d,Same a d->b (p n) d)->s (some (.str n)::j6 σ j) a b)(l:∀(n:Str) a (b:VK),b (.str n) a->q (some (.str n)::j6 σ j) a b)(m:∀D H',c D=none->Same c H'->H' D=some (.lst ((ws.filter p).map V.str))->Q (.ref D) H'):rf J c σ j s q Q:=by
 have pv:∀n:Str,(fun v:V=>match v with|.str i=>p i|_=>false) (V.str n)=p n:=fun n=>rfl;refine yd (ws.map V.str) (fun v=>match v with|.str i=>p i|_=>false) id o h0 (by rw[Ad];exact Aw hz (by decide)) ?_ ?_ ?_
 . intro x f a h b g;obtain⟨n,hn,rfl⟩:=AA.mp f;exact hc n hn a h b fun d r=>g d r
 . intro x f _ a h b g;obtain⟨n,hn,rfl⟩:=AA.mp f;exact l n a b (g a (Same.refl _))
 . intro D H' w e hd;refine m D H' w e ?_;rw[hd,CZ,JE];rfl
theorem ke(h:∀c:Ends,(∀σ H,b D σ H->c.nx σ H)->(∀v H,D.rt v H->c.rt v H)->(∀σ H,D.ct σ H->c.ct σ H)->a c σ H):tSeq a b D σ H:=h {D with nx:=b D} (fun _ _ z=>z) (fun _ _ z=>z) (fun _ _ z=>z)
open PySem.SeqAt
open AutoSeq1 (wpAny_loadPart')
open MeetsSeq MeetsSeq2 MeetsSeq3
noncomputable def EqP(prog:KZ)(w:KY)(A:Kq)(s:KG)(y x:KB):Prop:=∀(E:KB->KG->Prop) (Q:Bool->KG->Prop),Q true s->KC (KE prog w) A (eqBool y x) Q E s
theorem aad(p q:KA)(us vs:Array KB)(m1 m2:Nat)(h g:Option KA)(l r:Array (Option KB))(hz:us.size=vs.size)(c:Nat):
 ∀i:Nat,us.size-i=c->MeetsIn prog w (Builtin.«list.__eq__.loop» ⟨[.ref p,.ref q,Ko i,Ko 3],[]⟩)
  (fun A R s=>s.heap.get? p=some {cls:=.type "list",dict:=h,data:=.seq us m1,slots:=l}/\s.heap.get? q=some {cls:=.type "list",dict:=g,data:=.seq vs m2,slots:=r}/\
   (∀j (y:j<us.size) (v:j<vs.size),EqP prog w A.in1 s us[j] vs[j])/\R (.ok (.ret (.bool false))) s):=by
 induction c with
 | zero =>
  intro i hi A R st a;obtain⟨m,u,n,f,o⟩:=st;obtain⟨b,d,same,fin⟩:=a
  wp_walk using Bl b,Bl d
  have n1:us[((i:Nat):Int).toNat]?=none:=by
   simp
   lia
  have n2:vs[((i:Nat):Int).toNat]?=none:=by
   simp
   lia
  rw[n1,n2]
  wp_walk using Bl b,Bl d
  show R (.ok (.ret (.bool (us.size != vs.size)))) _;have e:(us.size != vs.size)=false:=by rw[hz];simp
  rw[e];exact fin
 | succ c ih =>
  intro i hi A R st a;obtain⟨m,u,n,f,o⟩:=st;obtain⟨b,d,same,fin⟩:=a
  wp_walk using Bl b,Bl d
  have l1:i<us.size:=by lia
  have l2:i<vs.size:=by lia
  have n1:us[((i:Nat):Int).toNat]?=some us[i]:=by simp[l1]
  have n2:vs[((i:Nat):Int).toNat]?=some vs[i]:=by simp[l2]
  have up:((i:Int)+1)=((i+1:Nat):Int):=by lia
  rw[n1,n2];refine Aa (same i l1 l2 _ _ ?_)
  wp_walk
  rw[up];refine⟨BC plain_eq_loop _,Bw entry_eq_loop ?_⟩;rw[AY plain_eq_loop _];exact ih (i+1) (by lia) A R _ ⟨b,d,same,fin⟩
theorem aag(p q:KA)(us vs:Array KB)(m1 m2:Nat)(b g:Option KA)(d c:Array (Option KB))(hz:us.size=vs.size):MeetsIn prog w (Builtin.«list.__ne__» ⟨[.ref p,.ref q],[]⟩)
 (fun A R s=>s.heap.get? p=some {cls:=.type "list",dict:=b,data:=.seq us m1,slots:=d}/\s.heap.get? q=some {cls:=.type "list",dict:=g,data:=.seq vs m2,slots:=c}/\
  (∀j (n:j<us.size) (i:j<vs.size),EqP prog w A.in1 s us[j] vs[j])/\R (.ok (.ret (.bool false))) s):=by
 intro A R st a;obtain⟨m,l,o,h,r⟩:=st;obtain⟨f,e,same,fin⟩:=a;have sub:=Hz;have ns:¬ (us.size != vs.size)=true:=by rw[hz];simp
 wp_walk using Bl f,Bl e
 refine⟨BC plain_eq_loop _,Bw entry_eq_loop ?_⟩;rw[AY plain_eq_loop _];exact aad p q us vs m1 m2 b g d c hz _ 0 rfl A R _ ⟨f,e,same,fin⟩
section
noncomputable def afz(_ j:Int):Prop:=0<j/\j<=10 ^ 60
theorem aaa:OpR X (Ki .FloorDiv) (rI afz fun i j=>.int (i / j)):=opI fun i j _ _ _ _ _ hc q=>by
 have c:(0:Int)<j:=hc.1;have b:j<=10 ^ 60:=hc.2;refine floordiv_int (by lia) (by rw[FK i (by lia)];exact q) (.inl (PyProof.noPylong_of_log2 ?_));have a:j.natAbs<2 ^ 200:=by
  have:(10:Int) ^ 60<2 ^ 200:=by decide
  lia
 have d:j.natAbs.log2<200:=(Nat.log2_lt (by lia)).mpr a
 lia
set_option relaxedAutoImplicit true
theorem a9d(a:QE X o td)(b:QE X e ty)(m:autoParam (M1 X o "pop" apos e cpos) a9_):QE X (.Call (.Attribute o "pop" apos) [e] [] cpos) (a63 td ty):=⟨aa1 a.run b.run m⟩
end
end L2
namespace Mir
open PySem L2
noncomputable def letters:Str := "abcdefghijklmnopqrstuvwxyz"
noncomputable def figures:Str := "0123456789"
noncomputable def noNames:List Str:=["nil","any","is","not","cell","stretch","tree","nothing","then","with"]
noncomputable def ki(c:Nat):Bool:=decide (c∈letters.cps.toList) || decide (c∈figures.cps.toList)
noncomputable def sd:List Nat->Bool
 | []=>false
 | c::_=>decide (c∈letters.cps.toList)
noncomputable def i8(x:Str):Bool:=if x="" \/ 8<x.length\/x∈noNames then false else sd x.cps.toList && x.cps.toList.all ki
theorem a3y(a b:Str):eqV (.str a) (.str b)=decide (a=b):=by
 show (a==b)=decide (a=b);by_cases h:a=b
 . subst h;simp
 . rw[decide_eq_false h];exact beq_eq_false_iff_ne.mpr h
theorem oo(x:Str)(l:List Str):inV (.str x) (l.map V.str)=decide (x∈l):=by
 unfold inV;rw[Ck,Gm,decide_eq_true_eq];constructor
 . rintro⟨y,a,e⟩;obtain⟨z,hz,rfl⟩:=AA.mp a;rw[a3y,decide_eq_true_eq] at e;exact e ▸ hz
 . intro h;exact⟨.str x,AA.mpr ⟨x,h,rfl⟩,by rw[a3y];simp⟩
theorem pw(l:List Str):(l.map V.str).all qi=true:=by
 rw[Dj];intro v a;obtain⟨z,_,rfl⟩:=AA.mp a;rfl
end Mir
namespace K55
open L2 Mir
noncomputable def top(i:Nat):KN:=PySem.Challenge.pw_apart_k55_machines_keep_their_own.main.body.getD i (.Pass ⟨0,0,0,0⟩)
noncomputable def forms:List (Str×List Str):=[("set",["name","value"]),("read",["name","name","field"]),("write",["name","field","value"]),("new",["name","value","value"]),("free",["name"])]
structure Con(K:Ab)(mg:Str->Option KB)(w:KY):Prop where
 len:mg "len"=none
 all:mg "all"=none
 any:mg "any"=none
 isi:mg "isinstance"=none
 list:mg "list"=none
 int:mg "int"=none
 bool:mg "bool"=none
 str:mg "str"=none
 dict:mg "dict"=none
 sorted:mg "sorted"=none
 set:mg "set"=none
 sum:mg "sum"=none
 range:mg "range"=none
 tuple:mg "tuple"=none
 max:mg "max"=none
 zip:mg "zip"=none
 min:mg "min"=none
 enumerate:mg "enumerate"=none
 gf:∀{x:Str} {f:KA},AM K KH x=some (some (.ref f))->mg x=some (.ref f)
 letters:Glob mg "LETTERS" (.str Mir.letters)
 figures:Glob mg "FIGURES" (.str Mir.figures)
 noNames:∃a,Glob mg "NO_NAMES" (.ref a)/\∀H,SqT K H a (Mir.noNames.map V.str)
 mostSigns:Glob mg "MOST_SIGNS" (.int 8)
 forms:∃(a:KA) (ts:List (Str×KA)),Glob mg "PLAIN_FORMS" (.ref a)/\a12 K w a (ts.map fun x=>(x.1,V.ref x.2))/\ts.map (·.1)=forms.map (·.1)/\∀w t r,(w,t)∈ts->(w,r)∈forms->∀H,SqT K H t (r.map V.str)
 fields:∃a,Glob mg "FIELDS" (.ref a)/\(∀H,SqT K H a (([("first":Str),"second"]:List Str).map V.str))/\∃o,K.lookup a=some o/\o.cls=.type "tuple" /\ o.dict=none
 places:∃a,Glob mg "CELL_PLACES" (.ref a)/\a12 K w a [("read",.int 2),("write",.int 1),("free",.int 1)]
theorem iteB{b:Bool}{A B:Prop}(c:b=true->A)(a:b=false->B):if b=true then A else B:=by grind
noncomputable def Short(x:Str):Prop:=x.length<=1000
theorem Short.line(h:Short x):x.length<=KF:=BG (l8 h)
noncomputable def spB1(f:Str->Bool):Sp:=fun vs H Q _=>∃x,vs=[.str x]/\Short x/\∀H',Same H H'->Q (.bl (f x)) H'
theorem wm{r:List Str}{k:Nat}:cutV (r.map V.str) (some (k:Int)) none=(r.drop k).map V.str:=by
 unfold cutV;rw[HT.sIx_nat,HT.sIx_none,Ad];rw[List.map_drop.symm];by_cases h:k<=r.length
 . rw[CS h,Bi (by simp)]
 . rw[Gs (by lia),Nat.sub_self,Da,HE (by lia)];rfl
noncomputable def sj(rs:List (List Str)):Prop:=rs.length<=200/\∀r∈rs,r.length<=5/\∀x∈r,Short x
theorem Paired.nth:∀{l₁:List α}{l₂:List β}{i:Nat}{a:α},KI F l₁ l₂->l₁[i]?=some a->∃b,l₂[i]?=some b/\F a b
 | _,_,_,_,.nil,e=>by simp at e
 | _,_,0,_,.cons h _,e=>by simp at e;subst e;exact⟨_,rfl,h⟩
 | _,_,i+1,_,.cons _ t,e=>by
  obtain⟨b,d,c⟩:=Paired.nth (i:=i) t (by simpa using e);exact⟨b,by simpa using d,c⟩
noncomputable def vsN:Nat->(Nat->KB)->List KB
 | 0,_=>[]
 | n+1,v=>v 0::vsN n fun i=>v (i+1)
theorem aeh{p:List KB->Prop}(n:Nat)(h:∀v,p (vsN n v))(us:List KB)(e:us.length=n):p us:=by
 have g:us=vsN us.length fun i=>us.getD i .none:=by
  clear e;induction us with
  | nil=>rfl
  | cons a r ih=>exact congrArg (a :: ·) ih
 rw[g,e];exact h _
noncomputable def FX(K:Ab)(mg:Str->Option KB)(w:KY)(L:KA->Prop)(k:Nat)(sp:Sp):Prop:=∀P base,∃f fd ps,FnOk P w K mg base CX0 k f fd ps sp/\L f/\Cs K (.ref f)=true/\Binds K fd ps []
theorem FX.mono(F:FX K mg w L j sp)(h:j<=k):FX K mg w L k sp:=fun P b=>by
 obtain⟨f,d,ps,a,c⟩:=F P b;exact⟨f,d,ps,a.mono h,c⟩
noncomputable def FC(K:Ab)(mg:Str->Option KB)(w:KY)(k:Nat)(x:Str)(sp:Sp):Prop:=FX K mg w (fun f=>mg x=some (.ref f)) k sp
noncomputable def MC(K:Ab)(mg:Str->Option KB)(w:KY)(C:KA)(k:Nat)(m:Str)(sp:Sp):Prop:=FX K mg w (fun f=>AR K (.ref C) m=some (some (.ref f))/\DJ K (.ref f)=true) k sp
noncomputable def GX(K:Ab)(L:KA->Prop)(x qual:Str)(st:KN):Prop:=∃f fd,L f/\Fun K x qual st f fd
noncomputable def GF(K:Ab)(x:Str)(st:KN):Prop:=GX K (fun f=>AM K KH x=some (some (.ref f))) x x st
noncomputable def GM(K:Ab)(C:KA)(m qual:Str)(st:KN):Prop:=GX K (fun f=>AR K (.ref C) m=some (some (.ref f))/\DJ K (.ref f)=true) m qual st
theorem GX.of{K:Ab}{L M:KA->Prop}{x qual:Str}{st:KN}(F:GX K L x qual st)(c:∀{f},L f->M f)(ps:List Str)(h:∀{P base f fd},Fun K x qual st f fd->FnOk P w K mg base CX0 k f fd ps sp)(hb:autoParam (∀(kV d g:KB) (e:Option KA) (c ct:KB) (v:Nat->KB),bindArgs (CI x qual (ot st) (lj st) (iw st) .none kV d g e c ct) ⟨vsN ps.length v,[]⟩=pure (ps.zip (vsN ps.length v))) a11_):FX K mg w M k sp:=fun P b=>by
 obtain⟨f,d,l,F⟩:=F;exact⟨f,d,ps,h F,c l,F.kp,F.binds fun a b c d e f=>aeh _ (hb a b c d e f)⟩
theorem GX.ok{K:Ab}{L M:KA->Prop}{x qual:Str}{st:KN}{k:Nat}{sp:Sp}(F:GX K L x qual st)(c:∀{f},L f->M f)(n:Nat)(N:List Str)(hbody:∀{P:KZ} {base:KU} {f:KA} {cdv:KB} {A:Kq} {outer:List Env} {s:KG} (H:Hp) (vs:List V) (Q:VK) (E:XK),Room k (A.deeper (PyProof.Rows.envOfC qual (iw st) s.heap.objs.size f cdv))->sp vs H Q E->N.Nodup->
 ∃t,QB (cxOf CX0 P w K mg base N qual (iw st) f cdv A outer s H E).nox (lj st) t/\t {nx:=fun _ H'=>Q .non H',rt:=Q} (start N vs) H)(S:autoParam (FnScope N (N.take n) (iw st)) a8_)(len:∀vs H Q E,sp vs H Q E->vs.length=(N.take n).length:=by
 intro _ _ _ _ h
 first
  | (cases h<;>subst_vars<;>rfl)
  | (repeat' obtain⟨_,h⟩:=h
     all_goals (subst_vars;rfl)))(hb:autoParam (∀(kV d g:KB) (e:Option KA) (c ct:KB) (v:Nat->KB),bindArgs (CI x qual (ot st) (lj st) (iw st) .none kV d g e c ct) ⟨vsN n v,[]⟩=pure ((N.take n).zip (vsN n v))) a11_)(hn:autoParam (n=(N.take n).length) a3_):FX K mg w M (k+1) sp :=
 F.of c _ (fun F=>F.okA N (fun _ _ _ _=>hbody) S len) (hn ▸ hb)
theorem gr(F:FC X.K X.mg X.w k x sp)(hr:Room k X.A)(ha:QA X (e::es) t)(hg:autoParam (Gl X x) a3_)(hdb:autoParam ((x==("__debug__":Str))=false) a1_)(he:autoParam (KD (e::es) X.env=(false,eval e X.env)::KD es X.env) a3_)(hpl:autoParam ((KP pos (KD es X.env)).any (·.1)=false) a3_):QE X (.Call (.Name x p) (e::es) [] pos) (zt sp [] E0 t):=by
 obtain⟨f,d,ps,F,l,m,b⟩:=F X.prog X.base;exact ac5 F hr hg l m b .nil a18 ha hdb he hpl
theorem kh{pl:Sem Bool}(h:QE X o j)(c:Cls X.K C)(F:MC X.K X.mg X.w C k m sp)(hr:Room k X.A)(ha:QA X (e::es) t)(b:autoParam (KD (e::es) X.env=(false,eval e X.env)::KD es X.env) a3_)(d:autoParam ((KP pos (KD es X.env)).any (·.1)=false) a3_)(ht:autoParam (eval (.Call (.Attribute o m a) (e::es) [] pos) X.env=(do
 let g<-eval o X.env
 standAt a.atName
 let (f,first)<-holding [g] (getMethod g m pl)
 callWith pos f first (KP pos (KD (e::es) X.env)) (Kj pos (KO [] X.env)))) a3_):
 QE X (.Call (.Attribute o m a) (e::es) [] pos) (ph C m sp [] E0 j t):=by
 obtain⟨f,_,ps,F,l,n,z⟩:=F X.prog X.base;exact act h c ⟨l.1,l.2,n⟩ F hr z .nil a18 ha b d ht
theorem jq{pl:Sem Bool}(d:QE X o g)(c:Cls X.K C)(F:MC X.K X.mg X.w C k m sp)(hr:Room k X.A)(ht:autoParam (eval (.Call (.Attribute o m a) [] [] pos) X.env=(do
 let b<-eval o X.env
 standAt a.atName
 let (f,first)<-holding [b] (getMethod b m pl)
 callWith pos f first (KP pos (KD [] X.env)) (Kj pos (KO [] X.env)))) a3_):
 QE X (.Call (.Attribute o m a) [] [] pos) (ph C m sp [] E0 g tNil):=by
 obtain⟨f,_,ps,F,l,n,z⟩:=F X.prog X.base;exact a8y d c ⟨l.1,l.2,n⟩ F hr z .nil a18 ht
theorem a1c(M:Mk X.K C f)(F:MC X.K X.mg X.w C k "__init__" sp)(hr:Room (k+1) X.A)(hm:X.mg x=some (.ref C))(ha:QA X (e::es) t)(g:autoParam (Gl X x) a3_)(b:autoParam ((x==("__debug__":Str))=false) a1_)(c:autoParam (KD (e::es) X.env=(false,eval e X.env)::KD es X.env) a3_)(a:autoParam ((KP pos (KD es X.env)).any (·.1)=false) a3_):
 QE X (.Call (.Name x p) (e::es) [] pos) (a4v C sp [] E0 t):=by
 obtain⟨f,_,ps,F,l,n,z⟩:=F X.prog X.base;exact acq ⟨M.makes,l.1,l.2,M.kp⟩ F hr g hm z .nil a18 ha b c a
theorem Paired.at2{F:α->β->Prop}{l₁:List α}{l₂:List β}{i:Nat}{a:α}{b:β}(h:KI F l₁ l₂)(f:l₁[i]?=some a)(d:l₂[i]?=some b):F a b:=by
 obtain⟨g,c,e⟩:=Paired.nth h f;rw[d] at c;cases c;exact e
noncomputable def l9(r:List Str):List Str:=(r.drop 1).filter fun x => !decide (x∈Mir.noNames)
noncomputable def words(rs:List (List Str)):List Str:=(rs.map l9).flatten
theorem words_app(a b:List (List Str)):words (a++b)=words a++words b:=by grind [words]
theorem a5q(a:List (List Str))(r:List Str):words (a++[r])=words a++l9 r:=by grind [words,l9]
theorem sr:∀{rs:List (List Str)}{m:Nat},(∀r∈rs,r.length<=m)->(words rs).length<=rs.length*m
 | [],m,_=>by simp[words]
 | r::rs,m,h=>by
  have c:=sr (rs:=rs) (m:=m) (fun x a=>h x (Al _ a));have b:(l9 r).length<=m:=by
   unfold l9;have:=BP (fun x => !decide (x∈Mir.noNames)) (r.drop 1);have:=h r (Ag ..);have e:=Bb (i:=1) (l:=r)
   lia
  have e:words (r::rs)=l9 r++words rs:=by simp[words]
  rw[e,Ai,AB,Nat.succ_mul]
  lia
theorem Paired.app:∀{l₁:List α}{l₂:List β}{b:List α}{a:List β},KI F l₁ l₂->KI F b a->KI F (l₁++b) (l₂++a)
 | _,_,_,_,.nil,h=>h
 | _,_,_,_,.cons h t,h2=>.cons h (Paired.app t h2)
noncomputable def wq(K:Ab):Sp:=fun vs H Q _=>∃a fs ps,vs=[.ref a]/\af5 K H a [fs,ps]/\sj fs/\sj ps/\(∀r∈fs++ps,r≠[])/\(∀ss:List Str,ss.Nodup->(∀y∈ss,y∈words (fs++ps))->ss.length<64)/\
 ∀(p:KA) (zs:List Str) (H':Hp),H p=none->Same H H'->H' p=some (.lst (zs.map V.str))->zs.Nodup->(∀y,y∈zs↔y∈words (fs++ps))->DV zs=true->Q (.ref p) H'
abbrev a09:KN:=top 5
abbrev yc:KN:=top 6
theorem a9z:FnScope ["text"] ["text"] (iw a09):=⟨rfl,rfl,rfl,by decide,rfl,by decide,by decide⟩
theorem a8q(C:Con K mg w)(F:Fun K "is_name" "is_name" a09 f fd):FnOk P w K mg base CX0 1 f fd ["text"] (spB1 i8):=by
 refine F.ok a9z (fun vs H Q E h=>?_) (fun N A outer s H vs Q E hr h=>?_)
 . obtain⟨x,rfl,_⟩:=h;rfl
 obtain⟨x,rfl,y,q⟩:=h;obtain⟨U,W,O⟩:=C.noNames;refine⟨_,uu (abk (PW.pt (a56 (ue ig (pv 0) a2p (ly _)) (a56 (ue xj (uk vo rfl C.len CD (kd (pv 0) q5)) (pe_g C.mostSigns) (ly _))
  (a81 (ue sn (pv 0) (pe_g W) (by with_unfolding_all rfl)))))) (ug (zk abc)) a4i)
  (ug (zk (aem (wp v7 (a19 nz (pv 0) rd (fun _ _=>rfl)) (pe_g C.letters) (by with_unfolding_all rfl))
   (a7w (uk (a98 rfl) rfl C.all PyProof.Rows.boot_all (kd (xy (ael (pv 0)) (fun _ _ _ _=>a3r)
    (fun _ _ _ _=>afr (wp v7 (pv 0) (pe_g C.letters) (by with_unfolding_all rfl)) (a7w (wp v7 (pv 0) (pe_g C.figures) (by with_unfolding_all rfl))))) q5)))))),?_⟩
 have o:(x="" \/ 8<x.length\/x∈Mir.noNames)->Q (.bl false) H:=fun h=>by
  have e:i8 x=false:=by unfold i8;rw[if_pos h]
  rw[<- e];exact q H (Same.refl H)
 refine⟨_,rfl,rfl,_,rfl,iteB (fun c=>o (.inl (by simpa using c))) fun c=>?_⟩;refine⟨_,rfl,x,rfl,y.line,_,_,rfl,rfl,_,rfl,iteB (fun u=>o (.inr (.inl (by have:=of_decide_eq_true u;lia)))) fun u=>?_⟩;refine⟨_,rfl,U,_,rfl,.inr (O _),rfl,pw _,_,rfl,iteB (fun G=>o (.inr (.inr (by
  have b:inV (.str x) (Mir.noNames.map V.str)=true:=G;rw[oo] at b;exact of_decide_eq_true b)))) fun G=>?_⟩
 have l:¬ x="" := by simpa using c
 have n:¬ 8<x.length:=by have:=of_decide_eq_false u;lia
 have b:¬ x∈Mir.noNames:=by
  have b:inV (.str x) (Mir.noNames.map V.str)=false:=G;rw[oo] at b;exact of_decide_eq_false b
 have e:i8 x=(sd x.cps.toList && x.cps.toList.all ki):=by unfold i8;rw[if_neg (fun h=>h.elim l (fun h=>h.elim n b))]
 rw[e] at q;cases hl:x.cps.toList with
 | nil =>
  exfalso;apply l;obtain⟨a⟩:=x;have:a = #[]:=by simpa using hl
  rw[this];rfl
 | cons c0 r =>
  refine⟨_,rfl,x,0,c0,rfl,rfl,y.line,(jg (j:=0) (by rw[hl];rfl)),c0,_,rfl,rfl,_,rfl,?_⟩;have L:sd x.cps.toList=decide (c0∈Mir.letters.cps.toList):=by rw[hl];rfl
  refine iteB (fun ch=>?_) (fun ch=>?_)
  . rw[L,ch,JS] at q;refine⟨_,rfl,x,rfl,?_⟩;refine yd (um x) (fun _=>true) (fun v=>match v with|.str z=>.bl (ki (z.cps.toList.headD 0))|_=>.bl false) a9y trivial ?_ ?_ ?_ ?_
    . unfold um;rw[Ad,Bj];exact y.line
    . intro v J g M p I;exact I g (Same.refl _)
    . intro v J _ g M p I;obtain⟨d,S,rfl⟩:=AA.mp J;have i:=I g (Same.refl _);refine⟨_,rfl,d,_,rfl,rfl,_,rfl,iteB (fun z=>?_) (fun z=>?_)⟩
      . have:ki d=true:=by unfold ki;rw[show decide (d∈Mir.letters.cps.toList)=true from z];rfl
        have m:p (.bl (ki d)) g:=i;rw[this] at m;exact m
      . refine⟨_,rfl,d,_,rfl,rfl,?_⟩;have:ki d=decide (d∈Mir.figures.cps.toList):=by unfold ki;rw[show decide (d∈Mir.letters.cps.toList)=false from z];rfl
        have m:p (.bl (ki d)) g:=i;rw[this] at m;exact m
    . intro D H' X T hd;refine⟨D,x.cps.toList.map ki,rfl,SqL.of ?_,?_⟩
      . rw[hd]
        congr 1
        congr 1
        unfold um;rw[List.filter_eq_self.mpr (fun _ _=>rfl),BA,BA];rfl
      . have R:(x.cps.toList.map ki).all id=x.cps.toList.all ki:=by rw[List.all_map];rfl
        rw[R];exact q H' T
  . rw[L,ch] at q;exact q H (Same.refl _)
theorem scNamesOf:FnScope ["telling","names","row"] ["telling"] (iw yc):=⟨rfl,rfl,rfl,by decide,rfl,by decide,by decide⟩
theorem a4o(C:Con K mg w)(F:Fun K "names_of" "names_of" yc f fd):FnOk P w K mg base CX0 1 f fd ["telling"] (wq K):=by
 refine F.ok scNamesOf (fun vs H Q E h=>?_) (fun af A outer s H vs Q E hr h=>?_)
 . obtain⟨a,fs,ps,rfl,_⟩:=h;rfl
 obtain⟨a,fs,ps,rfl,ht,hf,hp,aa,ab,q⟩:=h;obtain⟨aN,gN,tN⟩:=C.noNames;obtain⟨as,t1,t2⟩:=ht;cases t2 with
 | @cons fa _ _ _ t3 t4 =>
 cases t4 with
 | @cons pa _ _ _ t5 t6 =>
 cases t6;obtain⟨d,f1,f2⟩:=t3;obtain⟨g,p1,p2⟩:=t5;refine⟨_,uu (a5w scNamesOf.nd (i:=1) rfl (Or.inl rfl) (a1k q5))
  (uu (a7k AN rfl (a4e (abe ky (a19 vc (pv 0) rd (fun _ _=>rfl)) (a19 vc (pv 0) rd (fun _ _=>rfl)))) (xh (i:=2) scNamesOf.nd rfl (Or.inl rfl))
   (ug (a4g (ab6 AF Cw Cz qg (pv 1)
    (kd (xy (a6z (a21 zb (pv 2) (a3n rd) a3k)) (fun _ _ _ _=>a46 (ue (show OpR _ _ (rIn K true) from a1t) (pv 0) (pe_g gN) (by with_unfolding_all rfl))) (fun _ _ _ _=>pv 0)) q5)))))
   (ug (zk (uk (sq rfl) rfl C.sorted Eo (kd (a0o (a2k rfl) rfl C.set HY (kd (pv 1) q5)) q5))))),?_⟩
 refine⟨AH _,fun n hn=>?_⟩;have J:Same H (upd H n (.lst [])):=gk hn _;have fl:d.length=fs.length:=Ay f2;have pl:g.length=ps.length:=Ay p2;have b1:=hf.1;have b2:=hp.1;refine⟨_,rfl,a,_,0,.ref fa,rfl,rfl,J.seqT t1,rfl,_,rfl,a,_,1,.ref pa,rfl,rfl,J.seqT t1,rfl,?_⟩;refine⟨fa,pa,_,_,rfl,rfl,J _ _ f1,J _ _ p1,?_,fun c hc=>?_⟩
 . rw[Ad,Ad];exact BG (l8 (by lia))
 have N:c≠n:=fun e=>by rw[e,g8] at hc;cases hc
 rw[<- Ax];have s2:=gk hc (.lst ((d++g).map V.ref));refine⟨c,rfl,⟨_,SqL.of g8⟩,?_⟩;have pr:KI (fun b r=>RowAt K H b r) (d++g) (fs++ps):=Paired.app f2 p2;have Y:(d++g).length=(fs++ps).length:=Ay pr;have j:∀r∈fs++ps,r.length<=5:=fun r hr=>by
  rcases Aq.mp hr with h|h
  . exact (hf.2 r h).1
  . exact (hp.2 r h).1
 refine ld (xs:=(d++g).map V.ref) (fun i σ H'=>Same H H'/\H' c=some (.lst ((d++g).map V.ref))/\H' n=some (.lst ((words ((fs++ps).take i)).map V.str))/\∃z,σ=[some (.ref a),some (.ref n),z]) ⟨J.trans s2,g8,?_,_,rfl⟩ (fun i σ H' _ p=>SqL.of p.2.1) ?_ ?_
 . rw[f6 (AO N),g8];rfl
 . rintro i v σ H' hi ⟨e,R,o,z,rfl⟩;rw[Am] at hi;cases hb:(d++g)[i]? with
   | none=>rw[hb] at hi;cases hi
   | some b =>
    rw[hb] at hi;have I:v=.ref b:=(Au hi).symm;subst I;obtain⟨r,L,Z⟩:=Paired.nth pr hb;have O:r∈fs++ps:=AE L;have U:RowAt K H' b r:=Z.same e;have ah:=j r O;have aj:r.length≠0:=fun h=>aa r O (List.length_eq_zero_iff.mp h);refine⟨_,rfl,.inl ⟨rfl,_,SqL.of o⟩,_,rfl,_,rfl,b,_,rfl,U,?_,fun t hT=>?_⟩
    . rw[Ad,show (some (1:Int))=some ((1:Nat):Int) from rfl,HT.sIx_nat];lia
    have e1:cutV (r.map V.str) (some 1) none=(r.drop 1).map V.str:=wm (k:=1);rw[e1];have s3:Same H' (upd H' t (.tup ((r.drop 1).map V.str))):=gk hT _;refine⟨t,rfl,⟨_,SqT.of g8⟩,?_⟩;refine yd ((r.drop 1).map V.str) (fun v => !inV v (Mir.noNames.map V.str)) id a1l (SqT.of g8) ?_ ?_ ?_ ?_
    . rw[Ad,Bb];exact BG (l8 (by lia))
    . intro v I T e2 Q' G;obtain⟨y,hy,rfl⟩:=AA.mp I;exact⟨_,rfl,aN,_,rfl,.inr (tN _),rfl,pw _,_,rfl,G T (Same.refl _)⟩
    . intro v I ag T e2 Q' G;obtain⟨y,hy,rfl⟩:=AA.mp I;exact⟨_,rfl,G T (Same.refl _)⟩
    . intro D T hD X hd;have hw:(((r.drop 1).map V.str).filter (fun v => !inV v (Mir.noNames.map V.str))).map id=(l9 r).map V.str:=by
       rw[CZ,JE];unfold l9
       congr 1
       apply List.filter_congr;intro x _;show (!inV (.str x) (Mir.noNames.map V.str))=_;rw[oo]
      rw[hw] at hd;have s4:Same H T:=(e.trans s3).trans X;have ac:(fs++ps).take (i+1)=(fs++ps).take i++[r]:=by rw[BY,L];rfl
      have wl:=sr j;have ai:(words ((fs++ps).take i)).length<=200*5+200*5:=by
       have h1:=sr (rs:=(fs++ps).take i) (m:=5) (fun r hr=>j r (BS hr));have h2:=List.length_take_le' i (fs++ps);rw[Ai] at h2
       lia
      have ak:(l9 r).length<=5:=by
       unfold l9;have h1:=BP (fun x => !decide (x∈Mir.noNames)) (r.drop 1);have h2:=Bb (i:=1) (l:=r)
       lia
      refine⟨n,D,_,_,rfl,rfl,X _ _ (s3 _ _ o),hd,?_,?_⟩
      . rw[Ad,Ad];exact Aw (by lia) (show (2005:Nat)<=KF by decide)
      refine⟨fun b' u G=>?_,?_,?_,_,rfl⟩
      . rw[f6 (gh G hn)];exact s4 _ _ G
      . rw[f6 N];exact X _ _ (s3 _ _ R)
      . rw[g8,ac,a5q,Ax]
 . rintro σ H' ⟨e,R,o,z,rfl⟩;rw[Ad,Y,BK] at o;refine⟨_,rfl,n,_,rfl,SqL.of o,?_,fun S ss hS hd=>?_⟩
   . have wl:=sr j;rw[Ai] at wl;show _<4096
     lia
   have s5:=gk hS (SetO P w S ss);refine⟨S,ss,rfl,g8,ab ss hd.nodup (fun y hy=>(hd.mem y).mp hy),fun p zs W M ae=>?_⟩;have s6:=gk W (.lst (zs.map V.str));refine q p zs _ ?_ (e.trans (s5.trans s6)) g8 (M.nodup_iff.mpr hd.nodup) (fun y=>(M.mem_iff).trans (hd.mem y)) ae;cases hH:H p with
   | none=>rfl
   | some u=>exact nomatch (s5 _ _ (e _ _ hH)).symm.trans W
noncomputable def ln(ns:List Int)(k:Nat):Int:=(ns[k]?).getD 0
noncomputable def uc(K:Ab):Sp:=fun vs H Q _=>∃(a:KA) (ns:List Int) (k:Nat),vs=[.ref a,.int (k:Int)]/\SqL K H a (ns.map V.int)/\Q (.int (ln ns k)) H
theorem o0(hl:(xs.length:Int)=m)(hm:0<m):∃v,atI xs (i % m)=some v/\v∈xs:=by
 have h0:=BD i (Ep hm);have b:=B7 i hm;generalize i % m=j at h0 b;obtain⟨k,rfl⟩:=Int.eq_ofNat_of_zero_le h0;have a:k<xs.length:=by lia
 exact⟨xs[k],jg (Af a),CB a⟩
abbrev a4s:KN:=top 31
theorem af9:FnScope ["_law_script","_law_k"] ["_law_script","_law_k"] (iw a4s):=⟨rfl,rfl,rfl,by decide,rfl,by decide,by decide⟩
theorem a8e(C:Con K mg w)(F:Fun K "_law_cell_at" "_law_cell_at" a4s f fd):FnOk P w K mg base CX0 1 f fd ["_law_script","_law_k"] (uc K):=by
 refine F.okQ af9 (fun vs H Q E h=>?_) (fun i A outer s H vs Q E hr h=>?_)
 . obtain⟨a,ns,k,rfl,_⟩:=h;rfl
 obtain⟨a,ns,k,rfl,g,q⟩:=h;refine⟨_,gc (ij (tm qo (qv 1) (lx le rfl C.len CD (gj (qv 0) ad)) (ly _)) (gi (gz (mq wz (qv 0) (qv 1) (fun _ _=>rfl)))) iq)
  (gi (gz dn)),?_⟩
 have hl:(ns.map V.int).length=ns.length:=Ad _;refine⟨_,rfl,_,rfl,a,_,rfl,.inl g,_,_,rfl,rfl,_,rfl,iteB (fun c=>?_) (fun c=>?_)⟩
 . have d:=of_decide_eq_true c;rw[hl] at d;have b:k<ns.length:=by lia
   have e:ln ns k=ns[k]:=by unfold ln;rw[Af b];rfl
   rw[e] at q;exact⟨_,rfl,_,rfl,a,_,_,_,rfl,rfl,g,jg (by rw[Am,Af b];rfl),q⟩
 . have d:=of_decide_eq_false c;rw[hl] at d;have b:ns.length<=k:=by lia
   have e:ln ns k=0:=by unfold ln;rw[Bx b];rfl
   rw[e] at q;exact q
noncomputable def a1b(K:Ab):Sp:=fun vs H Q _=>∃(a:KA) (ns:List Int),vs=[.ref a]/\SqL K H a (ns.map V.int)/\∀H',Q (.bl true) H'
theorem a1e(xs:List Str)(n:Nat)(hn:n<=xs.length):cutV (xs.map V.str) none (some (n:Int))=(xs.take n).map V.str:=by
 unfold cutV;rw[HT.sIx_nat,HT.sIx_none,Ad,CS hn,De,Fh,FS]
theorem adn(e:QG X (.Name x px) (gt i))(c:QG X (.Name y a) (gt j))(hc:autoParam (X.calm=true) a3_)(d:autoParam ((KJ [.Name x px,.Name y a] X.env).map (·.2)=assign (.Name x px) X.env::(KJ [.Name y a] X.env).map (·.2)) a3_)(f:autoParam ((KJ [.Name y a] X.env).map (·.2)=assign (.Name y a) X.env::(KJ [] X.env).map (·.2)) a3_)(hn:autoParam ((KJ [.Name x px,.Name y a] X.env).length=2) a3_)(b:autoParam ((KJ [.Name x px,.Name y a] X.env).findIdx? (·.1)=none) a3_):QG X (.Tuple [.Name x px,.Name y a] k pos) (gTup X.K 2 (mx (gt i) (mx (gt j) gNil))) :=
 ⟨a1q hc (ko e.run (ko c.run wc f) d) hn b⟩
theorem jx(b:UnR X (unaryOp op) r)(ha:QE X a c):QE X (.UnaryOp op a pos) (tUn r c):=⟨abo b ha.run⟩
theorem jh:atI (xs++[v]) (-1)=some v:=by
 unfold atI ixN;have c:¬ (0:Int) <= -1:=by decide
 have a : -(((xs++[v]).length:Nat):Int) <= -1:=by rw[Ai,Be];lia
 rw[if_neg c,if_pos a];have b:((-1:Int)+(((xs++[v]).length:Nat):Int)).toNat=xs.length:=by rw[Ai,Be];lia
 rw[b];simp
theorem a42(h:QG X (.Name x px) (gt i))(d:QG X (.Name y b) (gt j))(e:QG X (.Name z a) (gt l))(hc:autoParam (X.calm=true) a3_)(g:autoParam ((KJ [.Name x px,.Name y b,.Name z a] X.env).map (·.2)=assign (.Name x px) X.env::(KJ [.Name y b,.Name z a] X.env).map (·.2)) a3_)(m:autoParam ((KJ [.Name y b,.Name z a] X.env).map (·.2)=assign (.Name y b) X.env::(KJ [.Name z a] X.env).map (·.2)) a3_)(f:autoParam ((KJ [.Name z a] X.env).map (·.2)=assign (.Name z a) X.env::(KJ [] X.env).map (·.2)) a3_)(hn:autoParam ((KJ [.Name x px,.Name y b,.Name z a] X.env).length=3) a3_)(c:autoParam ((KJ [.Name x px,.Name y b,.Name z a] X.env).findIdx? (·.1)=none) a3_):QG X (.Tuple [.Name x px,.Name y b,.Name z a] k pos) (gTup X.K 3 (mx (gt i) (mx (gt j) (mx (gt l) gNil)))) :=
 ⟨a1q hc (ko h.run (ko d.run (ko e.run wc f) m) g) hn c⟩
end K55
namespace L2
open PyProof.Rows
theorem a1d{k:Nat}(d:u.heap.IsTupleIter j q k)(l:u.heap.IsTuple q a)(i:a[k]?=some v)(r:∀g,g.IsTupleIter j q (k+1)->Cn j u.heap g->R v {u with heap:=g}):KC (KE prog w) A (Bd (.ref j)) R E u:=by
 obtain⟨o,c,n,b⟩:=id d;obtain⟨p,e,s,m,h⟩:=l;have ty:=d.typeIs;unfold Bd;refine Aa (Bn ty CW (Bp CW ty FG ?_ (F0 _)));show KC (KE prog w) _ (field (.ref j) 0>>=_) _ _ u;refine Aa (Bo c b (x:=.ref q) rfl ?_);have nn:¬ (Value.ref q==Value.none)=true:=Ak;show KC (KE prog w) _ (if (Value.ref q==Value.none)=true then _ else _) _ _ u;rw[if_neg nn];show KC (KE prog w) _ (field (.ref j) 1>>=_) _ _ u;refine Aa (Bo c b (x:=.int k 0) rfl ?_);show KC (KE prog w) _ (seqItems? (.ref q)>>=_) _ _ u;refine Aa (Bm e h ?_);simp only[Bv,i];have kept:∀f:Array KB->Array KB,(u.heap.update j (FR f)).get? j=some (FR f o):=fun f=>B9 _ c (DM (CL b _));refine Aa (Fx c b (by simp) (Ae ⟨v,rfl,Ae (r _ ⟨_,kept _,?_,?_⟩ (CA ..))⟩))
 . rw[EG];exact n
 . rw[CL b];simp[Ko]
theorem a0l{k:Nat}(r:A.handled=none)(f:u.heap.IsTupleIter j q k)(s:u.heap.IsTuple q b)(n:b[k]?=none)(l:∀g e,Hw j u.heap g->(∃o,g.get? e=some o/\o.cls=.type "StopIteration")->E (.ref e) {u with heap:=g}):KC (KE prog w) A (Bd (.ref j)) R E u:=by
 obtain⟨o,c,y,d⟩:=id f;obtain⟨p,h,v,m,i⟩:=s;have ty:=f.typeIs;unfold Bd;refine Aa (Bn ty CW (Bp CW ty FG ?_ (F0 _)));show KC (KE prog w) _ (field (.ref j) 0>>=_) _ _ u;refine Aa (Bo c d (x:=.ref q) rfl ?_);have nn:¬ (Value.ref q==Value.none)=true:=Ak;show KC (KE prog w) _ (if (Value.ref q==Value.none)=true then _ else _) _ _ u;rw[if_neg nn];show KC (KE prog w) _ (field (.ref j) 1>>=_) _ _ u;refine Aa (Bo c d (x:=.int k 0) rfl ?_);show KC (KE prog w) _ (seqItems? (.ref q)>>=_) _ _ u;refine Aa (Bm h i ?_);simp only[Bv,n];refine Aa (Cp (Aa (Fx c d (by simp) ?_)));show KC (KE prog w) _ (newExc (.type "StopIteration") []>>=_) _ _ _;refine Aa ?_;unfold newExc newTuple;refine Aa (AX ?_ (by size_fits));refine Aa (m:=firstArgMember _ _) (EJ (a:=Value.none) (by simp only[firstArgMember];rfl) (AX ?_ (by size_fits)));refine Fo ?_ ?_
 . exact r
 . exact l _ _ (((CA ..).extBut.push _).push _) ⟨_,An _ rfl,rfl⟩
theorem a7p{x:KB}(D:ZipApart z h to l j r s)(g1:IsZip u.heap z h to .none)(P:KR u.heap h (.ref l) (.ref j))(g3:KR u.heap to a b)(t1:u.heap.IsTupleIter l r k1)(t2:u.heap.IsTupleIter j s k2)(v1:u.heap.IsTuple r xs)(U:u.heap.IsTuple s ys)(hx:xs[k1]?=some x)(hy:ys[k2]?=some y)(hR:∀g,IsZip g z h to (Ko u.heap.objs.size)->KR g to x y->g.IsTupleIter l r (k1+1)->g.IsTupleIter j s (k2+1)->KR g u.heap.objs.size x y->
 (∀c o,c≠z->c≠to->c≠l->c≠j->u.heap.get? c=some o->g.get? c=some o)->R (some (.ref u.heap.objs.size)) {u with heap:=g}):KC (KE prog w) A (Kh (.ref z)) R E u:=by
 have ty:u.TypeIs (.ref z) "zip" := ⟨_,g1,rfl⟩
 unfold Kh;refine Aa (CV (Bn ty Cc (Bp Cc ty DW ?_ (DH _))));show KC (KE prog w) _ (field (.ref z) 2>>=_) _ _ u;refine Aa (Bo g1 rfl (x:=.bool false) rfl ?_);show KC (KE prog w) _ (field (.ref z) 3>>=_) _ _ u;refine Aa (Bo g1 rfl (x:=.ref h) rfl (Aa (Bm P rfl ?_)));show KC (KE prog w) _ (AS (.ref z)>>=_) _ _ u;refine Aa ?_;unfold AS;refine Aa (Bo g1 rfl (x:=.none) rfl (Ae ?_));simp only[if_true];refine Aa (Cp (Aa (Bo g1 rfl (x:=.ref to) rfl (Aa (Bq g1 (by simp) fun m1 W i=>?_)))));have z1:IsZip m1 z h to .ellipsis:=W;refine Aa ?_;simp only[Gu,Hl,Dz,DN];refine Aa (Aa (EO ?_));show KC (KE prog w) _ (Bd (.ref l)>>=_) _ _ _;refine Aa (a1d (t1.extBut i.extBut D.i1z) (v1.extBut i.extBut D.l1z) hx fun m2 y2 m=>Ae ?_);have L:KR m2 to a b:=m.extBut _ _ D.TOi1 (i.extBut _ _ D.TOz g3);refine Aa (Bm L rfl (Aa (DX L fun T y3 n=>Aa (DA (Ae ?_)))));have Y:KR T to x b:=y3;refine Aa (Aa (EO ?_));show KC (KE prog w) _ (Bd (.ref j)>>=_) _ _ _;have Z:=((t2.extBut i.extBut D.i2z).extBut m.extBut D.i12.symm).extBut n.extBut D.TOi2.symm;have O:=((U.extBut i.extBut D.l2z).extBut m.extBut D.l2i1).extBut n.extBut D.l2TO;refine Aa (a1d Z O hy fun m4 y4 p=>Ae ?_);have J:KR m4 to x b:=p.extBut _ _ D.TOi2 Y;refine Aa (Bm J rfl (Aa (DX J fun d Q q=>Aa (DA (Ae (Ae ?_))))));have H:KR d to x y:=Q;refine Aa (Bm H rfl (Aa (HZ ?_)));have sz:d.objs.size=u.heap.objs.size:=by rw[q.1,p.1,n.1,m.1,i.1]
 have G:IsZip d z h to .ellipsis:=q.extBut _ _ D.TOz.symm (p.extBut _ _ D.i2z.symm (n.extBut _ _ D.TOz.symm (m.extBut _ _ D.i1z.symm z1)));have kp:∀c o,c≠z->c≠to->c≠l->c≠j->u.heap.get? c=some o->d.get? c=some o:=fun c o n1 n2 n3 n4 e=>q.extBut _ _ n2 (p.extBut _ _ n4 (n.extBut _ _ n2 (m.extBut _ _ n3 (i.extBut _ _ n1 e))));have p1:d.IsTupleIter l r (k1+1):=((y2.extBut n.extBut D.TOi1.symm).extBut p.extBut D.i12).extBut q.extBut D.TOi1.symm;have p2:d.IsTupleIter j s (k2+1):=y4.extBut q.extBut D.TOi2.symm;show KC (KE prog w) _ (Cg (.ref z) (.ref d.objs.size)>>=_) _ _ _;refine Aa ?_;unfold Cg;have X:IsZip (d.push {cls:=.type "tuple",data:=.seq #[x,y]}) z h to .ellipsis:=Ac _ G;refine Aa (Bq X (by simp) fun m7 S M=>?_);have z7:IsZip m7 z h to (Ko d.objs.size):=S;refine Bq z7 (by simp) fun v y8 I=>?_;have N:IsZip v z h to (Ko d.objs.size):=y8;have f:∀c o,c≠z->d.get? c=some o->v.get? c=some o:=fun c o n1 e=>I.extBut _ _ n1 (M.extBut _ _ n1 (Ac _ e));have C:d.objs.size≠z:=BV (Ar G);have np:KR v d.objs.size x y:=I.extBut _ _ C (M.extBut _ _ C (An _ rfl));rw[sz] at N np;refine Ae ⟨_,rfl,Ae ?_⟩;show R (some (.ref d.objs.size)) _;rw[sz];exact hR v N (f _ _ D.TOz H) (p1.at fun o e=>f _ o D.i1z e) (p2.at fun o e=>f _ o D.i2z e) np fun c o n1 n2 n3 n4 e=>f c o n1 (kp c o n1 n2 n3 n4 e)
theorem a1j(J:A.handled=none)(D:ZipApart z a to d C l M)(g1:IsZip u.heap z a to .none)(r:KR u.heap a (.ref d) (.ref C))(t1:u.heap.IsTupleIter d l k1)(G:u.heap.IsTuple l xs)(y:xs[k1]?=none)(s:∀g,(∀c o,c≠z->c≠d->u.heap.get? c=some o->g.get? c=some o)->R none {u with heap:=g}):KC (KE prog w) A (Kh (.ref z)) R E u:=by
 have ty:u.TypeIs (.ref z) "zip" := ⟨_,g1,rfl⟩
 unfold Kh;refine Aa (CV (Bn ty Cc (Bp Cc ty DW ?_ (DH _))));show KC (KE prog w) _ (field (.ref z) 2>>=_) _ _ u;refine Aa (Bo g1 rfl (x:=.bool false) rfl ?_);show KC (KE prog w) _ (field (.ref z) 3>>=_) _ _ u;refine Aa (Bo g1 rfl (x:=.ref a) rfl (Aa (Bm r rfl ?_)));show KC (KE prog w) _ (AS (.ref z)>>=_) _ _ u;refine Aa ?_;unfold AS;refine Aa (Bo g1 rfl (x:=.none) rfl (Ae ?_));simp only[if_true];refine Aa (Cp (Aa (Bo g1 rfl (x:=.ref to) rfl (Aa (Bq g1 (by simp) fun m1 L f=>?_)))));have I:IsZip m1 z a to .ellipsis:=L;refine Aa ?_;simp only[Gu,Hl,Dz,DN];refine Aa (Aa (EO ?_));show KC (KE prog w) _ (Bd (.ref d)>>=_) _ _ _;refine Aa (a0l J (t1.extBut f.extBut D.i1z) (G.extBut f.extBut D.l1z) y fun m2 e n p=>?_);obtain⟨v,h,i⟩:=p;have j:IsZip m2 z a to .ellipsis:=n _ _ D.i1z.symm I;have ne:e≠z:=fun q=>by
  subst q;rw[j] at h;cases h;simp at i
 refine Bq j (by simp) fun H _ m=>?_;refine Aa (DT (T := "StopIteration") (b:=true) ⟨v,m.extBut _ _ ne h,i⟩ Fw ?_);exact Ae (s H fun c o n1 n3 q=>m.extBut _ _ n1 (n _ _ n3 (f.extBut _ _ n1 q)))
noncomputable def Ity(K:Ab)(l1 l2:KA):It where
 go:=fun i H=>∃xs ys x y,SqT K H l1 xs/\SqT K H l2 ys/\xs[i]?=some x/\ys[i]?=some y
 yld:=fun i H v H'=>∃x y p,(∀xs,SqT K H l1 xs->xs[i]?=some x)/\(∀ys,SqT K H l2 ys->ys[i]?=some y)/\H p=none/\H'=upd H p (.tup [x,y])/\v=.ref p
 stop:=fun i H=>∃xs ys,SqT K H l1 xs/\SqT K H l2 ys/\xs.length<=i
theorem wt(I:Inv X a σ H s)(h:SqT X.K H l xs)(f:FpOk X a H l):False:=by
 rcases h with (q|⟨o,q⟩)|⟨o,its,n,q,_⟩
 . rw[f.1] at q;cases q
 . rw[f.1] at q;cases q
 . have e:=I.ok.mod.kin _ _ q;rcases f.2.2.2.1 with z|z
   . exact I.ok.noex l o e z
   . exact absurd (AK (Ar e) (Aw I.ok.bsz z)) (Bz _)
noncomputable def ab9(n l1 l2:KA)(i:Nat)(h:KU):Prop:=IsZip h (n+4) (n+2) (n+3) .none/\KR h (n+2) (.ref n) (.ref (n+1))/\(∃a b,KR h (n+3) a b)/\h.IsTupleIter n l1 i/\h.IsTupleIter (n+1) l2 i
theorem a8i{K:Ab}{x1}(n l1 l2:KA):Turn P w K (.Tuple aa x1 pos) (Ity K l1 l2) (j3 n) (n+4) (ab9 n l1 l2) where
 mem:=by simp[j3]
 obj:=fun i h st b hb=>by
  obtain⟨hz,d,⟨a,c,f⟩,⟨o1,e1,c1,d1⟩,⟨o2,e2,c2,d2⟩⟩:=st;unfold j3 at hb;simp only[Ah,Av,or_false] at hb;rcases hb with rfl|rfl|rfl|rfl|rfl
  . exact⟨_,hz,fun v z=>by cases z⟩
  . exact⟨_,d,fun v z=>by cases z⟩
  . exact⟨_,f,fun v z=>by cases z⟩
  . exact⟨o1,e1,fun v z=>by rw[d1] at z;cases z⟩
  . exact⟨o2,e2,fun v z=>by rw[d2] at z;cases z⟩
 keep:=fun i h h' st k=>by
  obtain⟨hz,d,⟨a,c,f⟩,F,L⟩:=st;exact⟨k _ (by simp[j3]) _ hz,k _ (by simp[j3]) _ d,⟨a,c,k _ (by simp[j3]) _ f⟩,F.at fun o e=>k _ (by simp[j3]) o e,L.at fun o e=>k _ (by simp[j3]) o e⟩
 item:=by
  intro X T hw hK hc i g s σ H E I m st Z;subst T hw hK;obtain⟨hz,d,⟨a,c,f⟩,F,L⟩:=st;obtain⟨xs,ys,x,y,C,M,hx,hy⟩:=Z;obtain⟨l,Q,R,_⟩:=I.tuple C;obtain⟨N,r2,L2,_⟩:=I.tuple M;obtain⟨u,hu,ru⟩:=Q.get hx;obtain⟨v,hv,rv⟩:=r2.get hy;have D:ZipApart (n+4) (n+2) (n+3) n (n+1) l1 l2:=oz (fun z=>wt I C (m _ z)) (fun z=>wt I M (m _ z));refine a7p D hz d f F L (show s.heap.IsTuple l1 l.toArray from R) (show s.heap.IsTuple l2 N.toArray from L2) (x:=u) (y:=v) (by simpa using hu) (by simpa using hv) fun h' a1 a2 a3 a4 a5 O=>?_;have I1:Inv X g σ H {s with heap:=h'}:=I.turnedL (ch:=j3 n) (t':=s.toks) (fun b o hb e=>by
   unfold j3 at hb;simp only[Ah,Av,or_false,not_or] at hb;exact O b o hb.1 hb.2.2.1 hb.2.2.2.1 hb.2.2.2.2 e) m
  refine⟨.ref s.heap.objs.size,rfl,wpAny_letOwnedTupleGo_zip a1 fun J Y j=>?_⟩;have I2:Inv X g σ H {s with heap:=J}:=I1.turnedL (s:={s with heap:=h'}) (ch:=j3 n) (t':=s.toks) (fun b o hb e=>by
   unfold j3 at hb;simp only[Ah,Av,or_false,not_or] at hb;exact j.extBut _ _ hb.1 e) m
  have fresh:H s.heap.objs.size=none:=I.hok.fresh (Aj _);have pz:s.heap.objs.size≠n+4:=BV (Ar hz);have I3:Inv X g σ (upd H s.heap.objs.size (.tup [x,y])) {s with heap:=J}:=by
   refine I2.track fresh ?_ (BV I.lt) (fun z c' e A=>?_) (fun p hp A=>?_) ?_
   . cases q:X.s₀.heap.get? s.heap.objs.size with
     | none=>rfl
     | some o=>exact absurd (AK (Ar q) I.sz) (Bz _)
   . obtain⟨v',q⟩:=I.cell z c' e;exact absurd (A ▸ q.lt) (Bz _)
   . exact absurd (A ▸ Ar (I.pin p hp).1) (Bz _)
   . exact⟨by show 2<=KF;decide,[u,v],.cons ru (.cons rv .nil),⟨_,j.extBut _ _ pz a5,rfl,_,rfl⟩⟩
  have U:∀b∈j3 n,b≠s.heap.objs.size:=fun b hb e=>by
   have S:∃o,s.heap.get? b=some o:=by
    unfold j3 at hb;simp only[Ah,Av,or_false] at hb;obtain⟨o1,g1,_⟩:=F;obtain⟨o2,g2,_⟩:=L;rcases hb with rfl|rfl|rfl|rfl|rfl
    . exact⟨_,hz⟩
    . exact⟨_,d⟩
    . exact⟨_,f⟩
    . exact⟨_,g1⟩
    . exact⟨_,g2⟩
   obtain⟨o,S⟩:=S;exact absurd (e ▸ Ar S) (Bz _)
  have G:KR h' (n+2) (.ref n) (.ref (n+1)):=O _ _ D.TIz D.TITO D.TIi1 D.TIi2 d;refine⟨.ref s.heap.objs.size,_,I3,rfl,⟨x,y,_,fun zs r=>by rw[I.tuple_inj r C];exact hx,fun zs r=>by rw[I.tuple_inj r M];exact hy,fresh,rfl,rfl⟩,⟨Y,j.extBut _ _ D.TIz G,⟨_,_,j.extBut _ _ D.TOz a2⟩,a3.extBut j.extBut D.i1z,a4.extBut j.extBut D.i2z⟩,fun b hb=>?_⟩;rw[f6 (U b hb)];exact (m b hb).1
 done:=by
  intro X T hw hK hc i g s σ H E I m st Z;subst T hw hK;obtain⟨hz,d,⟨a,c,f⟩,F,L⟩:=st;obtain⟨xs,ys,C,M,hl⟩:=Z;obtain⟨l,Q,R,_⟩:=I.tuple C;have ab:=Q.length;have D:ZipApart (n+4) (n+2) (n+3) n (n+1) l1 l2:=oz (fun z=>wt I C (m _ z)) (fun z=>wt I M (m _ z));refine a1j (I.ok.hd hc) D hz d F (show s.heap.IsTuple l1 l.toArray from R) (by rw[Ct,Bx (by lia)]) fun h' O=>⟨rfl,I.turnedL (ch:=j3 n) (t':=s.toks) (fun b o hb e=>?_) m⟩
  unfold j3 at hb;simp only[Ah,Av,or_false,not_or] at hb;exact O b o hb.1 hb.2.2.2.1 e
 self:=fun _ _ _ _ _ st h=>Gv st.1 h
theorem a64(l1 l2:KA)(xs ys:Array KB):Meets (Builtin.«zip.__new__» ⟨[.type "zip",.ref l1,.ref l2],[]⟩) (fun _ R s=>s.heap.IsTuple l1 xs/\s.heap.IsTuple l2 ys/\
 R (.ok (.ret (.ref (s.heap.objs.size+4)))) {s with heap:=((((s.heap.push {cls:=.type "tuple_iterator",data:=.fields #[.ref l1,.int 0 0]}).push {cls:=.type "tuple_iterator",data:=.fields #[.ref l2,.int 0 0]}).push {cls:=.type "tuple",data:=.seq #[.ref s.heap.objs.size,.ref (s.heap.objs.size+1)]}).push {cls:=.type "tuple",data:=.seq #[.none,.none]}).push {cls:=.type "zip",data:=.fields #[.none,.bool false,.bool false,.ref (s.heap.objs.size+2),.ref (s.heap.objs.size+3)]}}) :=
 .of_wp fun prog w A R s h=>by
  obtain⟨m,g,d,tk,os⟩:=s;obtain⟨b,c,h⟩:=h;have sub:=sub_zip;have a:IZ (HF ⟨m,g,d,tk,os⟩) l1 xs:=b;have f:IZ (HF ⟨m.push {cls:=.type "tuple_iterator",data:=.fields #[.ref l1,.int 0 0]},g,d,tk,os⟩) l2 ys:=by
   obtain⟨o,e,r⟩:=c;exact⟨o,Ac _ e,r⟩
  have i:(m.push {cls:=.type "tuple_iterator",data:=.fields #[.ref l1,.int 0 0]}).objs.size=m.objs.size+1:=Br ..
  wp_walk using Ee a,Ee f
  refine⟨_,rfl,?_⟩;simp only[Br];exact h
noncomputable def ab7(K:Ab)(ta:TA):TI:=fun σ H R=>ta σ H fun vs H1=>∃l1 l2 xs ys,vs=[.ref l1,.ref l2]/\SqT K H1 l1 xs/\SqT K H1 l2 ys/\R (Ity K l1 l2) H1
theorem adk{x1}(U:Gl X "zip")(hm:X.mg "zip"=none)(ha:PA X [a,b] Y)(hs:KD [a,b] X.env=[(false,eval a X.env),(false,eval b X.env)])(z:KD [b] X.env=[(false,eval b X.env)]):
 PI X (.Tuple M x1 L) (.Call (.Name "zip" p) [a,b] [] pos) (ab7 X.K Y):=by
 intro A s σ H R I h;refine Call_ (oe I U hm boot_zip (BH (thn (ha pos A s σ H _ I h) fun us c ⟨vs,J,y,O,E⟩=>?_) (by rw[hs,z]) (by rw[z];rfl)));obtain⟨l1,l2,xs,ys,e,E,S,q⟩:=E;subst e;cases O with
 | cons r rr =>
  cases rr with
  | cons r' rr =>
   cases rr;cases r;cases r';obtain⟨u,Z,Q,_⟩:=y.tuple E;obtain⟨v,v2,N,_⟩:=y.tuple S;have T:c.heap.IsTuple l1 u.toArray:=Q;have W:c.heap.IsTuple l2 v.toArray:=N;refine callType_new F.called_zip (by decide) (Jw _ _) (JF _ _) (fun obj=>Io obj _ _) JG (a64 l1 l2 u.toArray v.toArray) ⟨T,W,?_⟩;have n:∀(m:KU) (o:Obj),(m.push o).objs.size=m.objs.size+1:=fun m o=>Br ..;have P:∀b o,c.heap.get? b=some o->∀d g i j l,(((((c.heap.push d).push g).push i).push j).push l).get? b=some o:=fun b o e d g i j l=>Ac _ (Ac _ (Ac _ (Ac _ (Ac _ e))));have at0:∀d g i j l:Obj,d.isFreed=false->(((((c.heap.push d).push g).push i).push j).push l).get? c.heap.objs.size=some d:=fun d g i j l f=>Ac _ (Ac _ (Ac _ (Ac _ (An _ f))));have C:∀d g i j l:Obj,g.isFreed=false->(((((c.heap.push d).push g).push i).push j).push l).get? (c.heap.objs.size+1)=some g:=fun d g i j l f=>by rw[<- n c.heap d];exact Ac _ (Ac _ (Ac _ (An _ f)))
   have at2:∀d g i j l:Obj,i.isFreed=false->(((((c.heap.push d).push g).push i).push j).push l).get? (c.heap.objs.size+2)=some i:=fun d g i j l f=>by
    have e:c.heap.objs.size+2=((c.heap.push d).push g).objs.size:=by rw[n,n]
    rw[e];exact Ac _ (Ac _ (An _ f))
   have G:∀d g i j l:Obj,j.isFreed=false->(((((c.heap.push d).push g).push i).push j).push l).get? (c.heap.objs.size+3)=some j:=fun d g i j l f=>by
    have e:c.heap.objs.size+3=(((c.heap.push d).push g).push i).objs.size:=by rw[n,n,n]
    rw[e];exact Ac _ (An _ f)
   have D:∀d g i j l:Obj,l.isFreed=false->(((((c.heap.push d).push g).push i).push j).push l).get? (c.heap.objs.size+4)=some l:=fun d g i j l f=>by
    have e:c.heap.objs.size+4=((((c.heap.push d).push g).push i).push j).objs.size:=by rw[n,n,n,n]
    rw[e];exact An _ f
   have g1:=D {cls:=.type "tuple_iterator",data:=.fields #[.ref l1,.int 0 0]} {cls:=.type "tuple_iterator",data:=.fields #[.ref l2,.int 0 0]} {cls:=.type "tuple",data:=.seq #[.ref c.heap.objs.size,.ref (c.heap.objs.size+1)]} {cls:=.type "tuple",data:=.seq #[.none,.none]} {cls:=.type "zip",data:=.fields #[.none,.bool false,.bool false,.ref (c.heap.objs.size+2),.ref (c.heap.objs.size+3)]} rfl;refine⟨⟨_,g1,rfl⟩,?_⟩;refine Gv (s:={c with heap:=_}) g1 ?_;refine⟨c.heap.objs.size+4,j3 c.heap.objs.size,ab9 c.heap.objs.size l1 l2,Ity X.K l1 l2,J,rfl,y.kept (t':=c.toks) fun b o e=>P b o e _ _ _ _ _,a8i _ _ _,⟨g1,at2 _ _ _ _ _ rfl,⟨_,_,G _ _ _ _ _ rfl⟩,⟨_,at0 _ _ _ _ _ rfl,rfl,rfl⟩,⟨_,C _ _ _ _ _ rfl,rfl,rfl⟩⟩,fun b hb=>?_,q⟩;have w:c.heap.objs.size<=b:=by
    unfold j3 at hb;simp only[Ah,Av,or_false] at hb;rcases hb with rfl|rfl|rfl|rfl|rfl
    . exact BE _ 4
    . exact BE _ 2
    . exact BE _ 3
    . exact Aj _
    . exact BE _ 1
   exact y.fpOk (H':=J) w (y.hok.fresh w)
theorem adp{x1}(f:Gl X "zip")(hm:X.mg "zip"=none)(ha:QA X [a,b] g)(hs:autoParam (KD [a,b] X.env=[(false,eval a X.env),(false,eval b X.env)]) a3_)(c:autoParam (KD [b] X.env=[(false,eval b X.env)]) a3_):
 QI X (.Tuple e x1 d) (.Call (.Name "zip" p) [a,b] [] pos) (ab7 X.K g):=⟨adk f hm ha.run hs c⟩
noncomputable def ag5(K:Ab)(w:KY)(td ty:TE):TE:=fun σ H Q=>td σ H fun x H1=>ty σ H1 fun y H2=>∃a kvs z v,x=.ref a/\y=.str z/\a12 K w a kvs/\kvs.lookup z=some v/\Q v H2
theorem acl{K:Ab}(hK:X.K=K)(hw:X.w=w)(r:QE X o l)(hi:QE X i ty)(hs:NoSl i):QE X (.Subscript o i pos) (ag5 K w l ty):=by
 subst hK hw;refine⟨fun b s σ H Q I h=>?_⟩;refine a3z Ge.lookup hs (thn (r.run b s σ H _ I h) fun u E ⟨x,g,C,A,M⟩=>thn (hi.run b E σ g _ C M) fun O m ⟨y,D,f,L,a,kvs,z,v,ex,j,hd,p,J⟩=>?_);subst ex j;obtain rfl:u=Value.ref a:=A;obtain⟨t',rfl⟩:=L;obtain⟨es,n,hl,q,G,hr⟩:=hd;have c:m.heap.MapOf (Kp X.prog X.w) a (fun k=>findBy BU es k):=JC f.kIn hl q;have hz:=hr z;rw[p] at hz;obtain⟨N,e,d⟩:=RelO.some_of (v:=v) (o:=findBy BU es z) hz;exact⟨c.typeIs,Js (Gb _ _ z t') c e ⟨v,D,f.tok _,d,J⟩⟩
end L2
namespace K55
open L2 Mir
theorem lenK(h:X.K=K):ku X (.builtin "len") (fun xs H Q=>∃p ys,xs=[.ref p]/\(SqL K H p ys\/SqT K H p ys)/\Q (.int ys.length) H):=by subst h;exact le
theorem ixTK(h:X.K=K):IxR X (rIxT K):=by subst h;exact vc
theorem ixK(h:X.K=K):IxR X (rIxL K):=by subst h;exact wz
theorem j9(h:n<=1000):n<KF:=l8 h
theorem io(h:n<=1000):n<=KF:=BG (l8 h)
theorem at0:atI (x::xs) 0=some x:=jg (xs:=x::xs) (v:=x) (j:=0) rfl
noncomputable def Ok(x:Str):Prop:=(PyData.str x).canLay0=true
theorem a2n(xs:List V)(n:Nat):cutV xs (some (n:Int)) none=xs.drop n:=by
 unfold cutV;rw[HT.sIx_nat,show HT.sIx xs.length xs.length none=xs.length from rfl];by_cases h:n<=xs.length
 . rw[CS h,Bi (by rw[Bb];lia)]
 . rw[Gs (by lia),Jx,HE (by lia),List.take_nil]
inductive Pl
 | row (r:List Str)
 | call (x c:Str)(vs:List Str)
noncomputable def PlAt(H:Hp)(t:KA):Pl->Prop
 | .row r=>H t=some (.tup (r.map V.str))
 | .call x c vs=>∃v,H t=some (.tup [.str "call",.str x,.str c,.ref v])/\H v=some (.tup (vs.map V.str))
theorem PlAt.same(h:PlAt H t p)(e:Same H H'):PlAt H' t p:=by
 cases p with
 | row r=>exact e _ _ h
 | call x c vs=>obtain⟨v,b,a⟩:=h;exact⟨v,e _ _ b,e _ _ a⟩
noncomputable def PlOk:Pl->Prop
 | .row r=>(∃h r' fs,r=h::r'/\(h,fs)∈forms/\fs.length=r'.length)/\∀y∈r,Ok y
 | .call x c vs=>Ok x/\Ok c/\∀y∈vs,Ok y
theorem a1o:∀c∈Mir.letters.cps.toList++Mir.figures.cps.toList,c<128:=by decide
theorem qp(h:i8 y=true):Ok y:=by
 have b:y.cps.toList.all ki=true:=by
  unfold i8 at h;split at h
  . cases h
  . rw[BR] at h;exact h.2
 unfold Ok;simp only[DO];unfold PyData.strOk;rw[<- Array.all_toList,Dj];intro c hc;have a:=Dj.mp b c hc;unfold ki at a;rw[Bool.or_eq_true] at a;have:c<128:=a1o c (List.mem_append.mpr (a.imp of_decide_eq_true of_decide_eq_true));simp only[decide_eq_true_eq]
 lia
theorem jw:∀y∈([("set":Str),"read","write","new","free","first","second","nil","any","","is","not","if","while","call","cell","stretch","tree"]:List Str),(PyData.str y).canLay0=true:=by decide
theorem yk:∀x∈forms,x.1≠"if" /\ x.1≠"while" /\ x.1≠"call" := by decide
theorem uh(h:PlAt H t p)(ok:PlOk p):∃(w:Str) (vs:List V),H t=some (.tup (.str w::vs))/\w≠"if" /\ w≠"while" := by
 cases p with
 | row r=>obtain⟨⟨w,d,fs,rfl,a,b⟩,_⟩:=ok;exact⟨w,d.map V.str,h,(yk _ a).1,(yk _ a).2.1⟩
 | call x c vs=>obtain⟨v,a,b⟩:=h;exact⟨"call",_,a,by decide,by decide⟩
structure Dn(n:Nat)(d:PyData):Prop where
 lay:d.canLay0=true
 dep:d.depth<=n
theorem Dn.ok(h:Dn n d)(hn:n<=16):EqOk d:=⟨h.lay,Aw h.dep hn⟩
theorem a8k:∀{ds:List PyData},(∀d∈ds,Dn n d)->C7 ds=true/\CT ds<=n
 | [],_=>⟨by simp only[C7],by simp only[CT];lia⟩
 | d::ds,h=>by
  obtain⟨e,b⟩:=a8k (ds:=ds) fun x c=>h x (Al _ c);have a:=h d (Ag ..);refine⟨?_,?_⟩
  . simp only[C7,BR];exact⟨a.lay,e⟩
  . simp only[CT];exact Nat.max_le.mpr ⟨a.dep,b⟩
theorem Dn.tup(h:∀d∈ds,Dn n d):Dn (n+1) (.tuple ds):=by
 obtain⟨a,b⟩:=a8k h;refine⟨?_,?_⟩
 . simp only[DO];exact a
 . simp only[Fi];lia
inductive Deed
 | plain (p:Pl)
 | cond (r:List Str)(a b:List Deed)
 | loop (r:List Str)(F P:List (List Str))(a:List Deed)
inductive DeedX(K:Ab)(H:Hp)(L:KA->List Deed->Prop)(t:KA):Deed->Prop
 | plain (p:Pl)(h1:PlAt H t p)(h2:PlOk p):DeedX K H L t (.plain p)
 | cond (c i o:KA)(r:List Str)(a b:List Deed)(h:H t=some (.tup [.str "if",.ref c,.ref i,.ref o]))(hc:H c=some (.tup (r.map V.str)))(okr:∀y∈r,Ok y)(hi:L i a)(ho:L o b):DeedX K H L t (.cond r a b)
 | loop (c td i fa pa:KA)(r:List Str)(F P:List (List Str))(a:List Deed)(h:H t=some (.tup [.str "while",.ref c,.ref td,.ref i]))(hc:H c=some (.tup (r.map V.str)))(okr:∀y∈r,Ok y)(htd:H td=some (.tup [.ref fa,.ref pa]))(hF:RowsAt K H fa F)(hP:RowsAt K H pa P)(okF:∀r∈F,∀y∈r,Ok y)(okP:∀r∈P,∀y∈r,Ok y)(lF:F.length<=10)(lP:P.length<=10)(hi:L i a):DeedX K H L t (.loop r F P a)
noncomputable def ListX(K:Ab)(H:Hp):List Nat->KA->List Deed->Prop
 | [],_,_=>False
 | b::bs,l,ds=>∃ts:List KA,H l=some (.lst (ts.map V.ref))/\KI (DeedX K H (ListX K H bs)) ts ds/\ts.length<=b
section
theorem DeedX.same(h:DeedX K H L t d)(e:Same H H')(f:∀l ds,L l ds->g l ds):DeedX K H' g t d:=by
 cases h with
 | plain p h1 h2=>exact .plain p (h1.same e) h2
 | cond c i o r a b h hc okr hi ho=>exact .cond c i o r a b (e _ _ h) (e _ _ hc) okr (f _ _ hi) (f _ _ ho)
 | loop c td i fa pa r F P a h hc okr htd hF hP okF okP lF lP hi=>exact .loop c td i fa pa r F P a (e _ _ h) (e _ _ hc) okr (e _ _ htd) (hF.same e) (hP.same e) okF okP lF lP (f _ _ hi)
variable{K:Ab}{H H':Hp} in
theorem ListX.same:∀{bs:List Nat}{l:KA}{ds:List Deed},ListX K H bs l ds->Same H H'->ListX K H' bs l ds
 | [],_,_,h,_=>h.elim
 | b::bs,l,ds,h,e=>by
  obtain⟨ts,d,a,c⟩:=h;exact⟨ts,e _ _ d,Paired.mapP a fun _ _ z=>z.same e fun _ _ y=>ListX.same y e,c⟩
variable{K:Ab}{H:Hp} in
variable{K:Ab}{H:Hp} in
variable{K:Ab}{H:Hp} in
structure Prc where
 name:Str
 res:Str
 ps:List Str
 F1:List (List Str)
 P1:List (List Str)
 F2:List (List Str)
 P2:List (List Str)
 body:List Deed
structure PrcX(K:Ab)(H:Hp)(bs:List Nat)(t pt t1 t2 f1 p1 f2 p2 bd:KA)(p:Prc):Prop where
 tup:H t=some (.tup [.str p.name,.ref pt,.str p.res,.ref t1,.ref t2,.ref bd])
 pt:H pt=some (.tup (p.ps.map V.str))
 t1:H t1=some (.tup [.ref f1,.ref p1])
 t2:H t2=some (.tup [.ref f2,.ref p2])
 f1:RowsAt K H f1 p.F1
 p1:RowsAt K H p1 p.P1
 f2:RowsAt K H f2 p.F2
 p2:RowsAt K H p2 p.P2
 body:ListX K H bs bd p.body
 okn:Ok p.name
 okr:Ok p.res
 okp:∀y∈p.ps,Ok y
 ok1:(∀r∈p.F1,∀y∈r,Ok y)/\∀r∈p.P1,∀y∈r,Ok y
 ok2:(∀r∈p.F2,∀y∈r,Ok y)/\∀r∈p.P2,∀y∈r,Ok y
 l1:p.F1.length<=10/\p.P1.length<=10
 l2:p.F2.length<=10/\p.P2.length<=10
noncomputable def PrcAt(K:Ab)(H:Hp)(bs:List Nat)(t:KA)(p:Prc):Prop:=∃pt t1 t2 f1 p1 f2 p2 bd,PrcX K H bs t pt t1 t2 f1 p1 f2 p2 bd p
theorem PrcAt.same(h:PrcAt K H bs t p)(e:Same H H'):PrcAt K H' bs t p:=by
 obtain⟨pt,t1,t2,f1,p1,f2,p2,bd,x⟩:=h;exact⟨pt,t1,t2,f1,p1,f2,p2,bd,e _ _ x.tup,e _ _ x.pt,e _ _ x.t1,e _ _ x.t2,x.f1.same e,x.p1.same e,x.f2.same e,x.p2.same e,x.body.same e,x.okn,x.okr,x.okp,x.ok1,x.ok2,x.l1,x.l2⟩
end
noncomputable def innL:Deed->List (List Deed)
 | .plain _=>[]
 | .cond _ a b=>[a,b]
 | .loop _ _ _ a=>[a]
noncomputable def isLp:Deed->Bool
 | .loop _ _ _ _=>true
 | _=>false
inductive spLists(vs:List V)(H:Hp)(Q:VK)(E:XK):Prop
 | cond (t i o:KA)(c:V)(h0:vs=[.ref t])(h:H t=some (.tup [.str "if",c,.ref i,.ref o]))(q:∀l,H l=none->Q (.ref l) (upd H l (.lst [.ref i,.ref o])))
 | loop (t i:KA)(c d:V)(h0:vs=[.ref t])(h:H t=some (.tup [.str "while",c,d,.ref i]))(q:∀l,H l=none->Q (.ref l) (upd H l (.lst [.ref i])))
 | none (t:KA)(w:Str)(vs':List V)(h0:vs=[.ref t])(h:H t=some (.tup (.str w::vs')))(n1:w≠"if")(n2:w≠"while")(q:∀l,H l=none->Q (.ref l) (upd H l (.lst [])))
theorem a9i(h:DeedX K g (ListX K g bs) t d)(e:Same g H)(h0:vs=[.ref t])(q:∀l as,H l=none->KI (ListX K g bs) as (innL d)->Q (.ref l) (upd H l (.lst (as.map V.ref)))):spLists vs H Q E:=by
 cases h with
 | plain p h1 h2 =>
  obtain⟨w,f,hw,n1,n2⟩:=uh h1 h2;exact .none t w f h0 (e _ _ hw) n1 n2 fun l hl=>q l [] hl .nil
 | cond c i o r a b h hc okr hi ho=>exact .cond t i o _ h0 (e _ _ h) fun l hl=>q l [i,o] hl (.cons hi (.cons ho .nil))
 | loop c td i fa pa r F P a h hc okr htd hF hP okF okP lF lP hi=>exact .loop t i _ _ h0 (e _ _ h) fun l hl=>q l [i] hl (.cons hi .nil)
theorem adm(h:DeedX K H L t d):∃(w:Str) (vs:List V),H t=some (.tup (.str w::vs))/\(w="while" ↔ isLp d=true):=by
 cases h with
 | plain p h1 h2 =>
  obtain⟨w,e,hw,n1,n2⟩:=uh h1 h2;exact⟨w,e,hw,fun z=>absurd z n2,fun z=>by cases z⟩
 | cond c i o r a b h hc okr hi ho=>exact⟨_,_,h,fun z=>absurd z (by decide),fun z=>by cases z⟩
 | loop c td i fa pa r F P a h hc okr htd hF hP okF okP lF lP hi=>exact⟨_,_,h,fun _=>rfl,fun _=>rfl⟩
end K55
namespace L2
open PyProof.Rows
theorem a76{St:Nat->KU->Prop}(W:Walks prog w A.in1 I fp X n P St)(d:Nat->Nat->Bool)(H:CmpOf prog w A.in1 .Gt P d)(S:KA)(G:S∉fp)(kw:List (Str×KB)):
 ∀(k j:Nat) (s:KG) (l:KB) (c:Nat),n-(j+1)=k->j+1<=n->St (j+1) s.heap->P (argBest d j) l->s.heap.get? S=some {cls:=.type "list",data:=.seq #[l,l] c}->
   (∀(v:KB) (h':KU) (tk:Nat),P (argBest d (n-1)) v->(∀(b:KA) (o:Obj),b∉X->b≠S->s.heap.get? b=some o->h'.get? b=some o)->R (.ok (.ret v)) {heap:=h',gens:=s.gens,drawn:=s.drawn,toks:=tk,os:=s.os})->
   Km (KE prog w) A (.builtin "max.loop" ⟨[.ref I,.none,.ref S],kw⟩) R s:=by
 have L:S∉X:=fun h=>G (W.sub S h);have T:toString "max" ++ toString ".loop"="max.loop" := by decide
 have s0:(#[]:Array KB).size<=KF+1:=by decide
 have U:∀v:KB,(#[v,v]:Array KB).size<=KF:=fun v=>show 2<=KF by decide
 have O:∀v:KB,(#[v,v]:Array KB).size<=KF+1:=fun v=>show 2<=KF+1 by decide
 intro k;induction k with
 | zero =>
  intro j s l c Z hj u q E M;have J:n=j+1:=by lia
  refine Bw Gw ?_;rw[AY CG];refine Aa (Bm E rfl ?_);refine Aa (Df (W.done s _ _ (J ▸ u) fun h' tk f=>?_));have m:=f S _ L E;refine Aa (Eb m rfl (Aa (DA (Ae (M l _ tk ?_ ?_)))) (U l) s0)
  . rw[J];exact q
  . intro b o a g e;exact (By _ _ (AO g)).trans (f b o a e)
 | succ k ih =>
  intro j s l c Z hj u q E M;have D:j+1<n:=by lia
  refine Bw Gw ?_;rw[AY CG];refine Aa (Bm E rfl ?_);refine Aa (Df (W.item (j+1) s _ _ D u fun v h' tk Y r f=>?_));have m:=f S _ L E;refine Aa (Ae (Aa (Df (AU (Aa (H (j+1) (argBest d j) v l _ _ _ Y q (Aa (AU (BN (Aa (DA (Ae ?_))))))))))));show KC _ _ (if d (j+1) (argBest d j)=true then _ else _) _ _ _;cases hb:d (j+1) (argBest d j) with
  | false =>
   rw[if_neg Ak];refine Aa (DA (Ae ?_));refine⟨BC CG _,ih (j+1) _ l c (by lia) D r ?_ m fun Q C i y p=>M Q C i y fun b o a g e=>p b o a g (f b o a e)⟩;show P (if d (j+1) (argBest d j)=true then j+1 else argBest d j) l;rw[hb,if_neg Ak];exact q
  | true =>
   rw[if_pos rfl];refine Aa (Eb m rfl (Aa (DA (Ae ?_))) (U l) (O v));refine⟨BC CG _,ih (j+1) _ v _ (by lia) D (W.frame (j+1+1) h' _ r fun b N o e=>(By _ _ (show S≠b from fun z=>G (by rw[z];exact N))).trans e) ?_ (B9 _ m rfl) fun Q C i y p=>M Q C i y fun b o a g e=>p b o a g ((By _ _ (AO g)).trans (f b o a e))⟩;show P (if d (j+1) (argBest d j)=true then j+1 else argBest d j) v;rw[hb,if_pos rfl];exact Y
theorem a53{St:Nat->KU->Prop}(W:Walks prog w A.in1 I Q J n P St)(H:Nat->Nat->Bool)(m:CmpOf prog w A.in1 .Gt P H)(S:KA)(f:S∉Q)(x:Str)(d:KB)(g:St 0 s.heap)(M:s.heap.get? S=some {cls:=.type "list",data:=.seq #[] c})(y:n=0->∀(h':KU) (tk:Nat),(∀(b:KA) (o:Obj),b∉J->s.heap.get? b=some o->h'.get? b=some o)->R (.ok (.ret d)) {heap:=h',gens:=s.gens,drawn:=s.drawn,toks:=tk,os:=s.os})(O:0<n->∀(v:KB) (h':KU) (tk:Nat),P (argBest H (n-1)) v->(∀(b:KA) (o:Obj),b∉J->b≠S->s.heap.get? b=some o->h'.get? b=some o)->R (.ok (.ret v)) {heap:=h',gens:=s.gens,drawn:=s.drawn,toks:=tk,os:=s.os}):
 Km (KE prog w) A (.builtin "max.loop" ⟨[.ref I,.none,.ref S],[(x,d)]⟩) R s:=by
 have L:S∉J:=fun h=>f (W.sub S h);have T:(#[]:Array KB).size<=KF:=by decide
 have E:∀v:KB,(#[v,v]:Array KB).size<=KF+1:=fun v=>show 2<=KF+1 by decide
 refine Bw Gw ?_;rw[AY CG];refine Aa (Bm M rfl ?_);by_cases hn:0<n
 . refine Aa (Df (W.item 0 s _ _ hn g fun v h' tk U l a=>?_));have q:=a S _ L M;refine Aa (Ae (Aa (Eb q rfl (Ae ?_) T (E v))));refine⟨BC CG _,a76 W H m S f _ (n-(0+1)) 0 _ v _ rfl hn (W.frame (0+1) h' _ l fun b C o e=>(By _ _ (show S≠b from fun z=>f (by rw[z];exact C))).trans e) U (B9 _ q rfl) fun N G j D r=>O hn N G j D fun b o i p e=>r b o i p ((By _ _ (AO p)).trans (a b o i e))⟩
 . have u:n=0:=by lia
   refine Aa (Df (W.done s _ _ (by rw[u];exact g) fun h' tk a=>?_));exact Aa (Cp (Ae (y u h' tk a)))
theorem a1f{x:KB}(h:KC (KE prog w) A.in1 (pyIter x) (fun it a=>∃I l j n P St i,it=.ref I/\Walks prog w A.in1 I l j n P St/\St 0 a.heap/\(∀b∈l,b<a.heap.objs.size)/\CmpOf prog w A.in1 .Gt P i/\
 (n=0->∀(h':KU) (tk:Nat),(∀(b:KA) (o:Obj),b∉j->a.heap.get? b=some o->h'.get? b=some o)->Q d {heap:=h',gens:=a.gens,drawn:=a.drawn,toks:=tk,os:=a.os})/\
 (0<n->∀(v:KB) (h':KU) (tk:Nat),P (argBest i (n-1)) v->(∀(b:KA) (o:Obj),b∉j->a.heap.get? b=some o->h'.get? b=some o)->Q v {heap:=h',gens:=a.gens,drawn:=a.drawn,toks:=tk,os:=a.os})) E s):
 KC (KE prog w) A (call (.builtin "max") [x] [("default",d)]) Q E s:=by
 have ha:argsOk "max" ⟨[x],[("default",d)]⟩:=rfl;have f:checkBuiltinCall "max" ⟨[x],[("default",d)]⟩=pure ():=by
  unfold checkBuiltinCall;rw[F.kind_max];unfold argsOk at ha;cases hs:Manifest.signature? "max" with
  | none=>rfl
  | some sig=>rw[hs] at ha;exact ha
 refine Ig (DS F.plain_max F.entry_max ?_);rw[f];refine Ae ?_;have hb:Builtin.Builtins.bindParams "max" ["key","default"] 0 ⟨[],[("default",d)]⟩=pure [none,some d]:=rfl;refine Aa (EJ hb ?_);refine Aa (Ae (Aa (thn h fun it a r=>?_)));obtain⟨I,l,j,n,P,St,i,rfl,W,m,p,g,h0,y⟩:=r;have q:a.heap.objs.size∉l:=fun z=>Bz _ (p _ z);refine Aa (AX (Ae ?_) (show 0<=KF by decide));refine⟨BC CG _,a53 W i g a.heap.objs.size q _ d (W.frame 0 a.heap _ m fun b _ o e=>Ac _ e) (An _ rfl) (fun hn h' tk f=>?_) (fun hn v h' tk u f=>?_)⟩
 . exact h0 hn h' tk fun b o c e=>f b o c (Ac _ e)
 . exact y hn v h' tk u fun b o c e=>f b o c (AC (Ar e)) (Ac _ e)
noncomputable def a5n(K:Ab):R2:=fun x y H Q=>∃(a:KA) (ns:List Int) (d:Int),x=.ref a/\y=.int d/\SqL K H a (ns.map V.int)/\(ns=[]->Q (.int d) H)/\∀M∈ns,(∀n∈ns,n<=M)->Q (.int M) H
theorem adu{K:Ab}(hK:X.K=K)(hc:X.calm=true)(hg:Gl X "max")(hm:X.mg "max"=none)(ha:QE X e Z)(hd:QE X c M)(C:autoParam ((Kj pos (KO [⟨some "default",c,f⟩] X.env)).all (·.1.isSome)=true) a3_)(T:autoParam ((Kj pos (KO [⟨some "default",c,f⟩] X.env)).filterMap (·.1)=[("default":Str)]) a3_)(U:autoParam (KD [e] X.env=(false,eval e X.env)::KD [] X.env) a3_)(R:autoParam ((KP pos (KD [e] X.env)).any (·.1)=false) a3_)(S:autoParam ((Kj pos (KO [⟨some "default",c,f⟩] X.env)).any (·.1.isNone)=false) a3_):
 QE X (.Call (.Name "max" p) [e] [⟨some "default",c,f⟩] pos) (tOp (a5n K) Z M):=by
 subst hK;refine⟨?_⟩;intro l s σ H Q I h;refine Dx (oe I hg hm PyProof.Rows.Boot.max ?_ (by decide) (by decide));refine PyProof.Rows.callWith_builtin_kwB R S (PyProof.Rows.evalArgs_kw2 C ?_ U);have A1:PA X [e] (iz Z tNil):=kd ha.run q5 U;have K1:PK X [⟨some "default",c,f⟩] (iz M tNil):=acp hd.run aeb;refine thn (A1 pos l s σ H (fun xs O=>match xs with | [x]=>M σ O fun y m=>a5n X.K x y m Q|_=>False) I h) fun us s1 ⟨vs,O,I1,r,q⟩=>?_;obtain⟨x,rfl⟩:∃x,vs=[x]:=by
  match vs,q with
  | [x],_=>exact⟨x,rfl⟩
 refine thn (K1 pos l s1 σ O (fun ys m=>match ys with | [y]=>a5n X.K x y m Q|_=>False) I1 q) fun ws G ⟨zs,m,F,rz,Y⟩=>?_;obtain⟨y,rfl⟩:∃y,zs=[y]:=by
  match zs,Y with
  | [y],_=>exact⟨y,rfl⟩
 obtain⟨a,ns,d,rfl,rfl,hq,q0,q1⟩:=Y;rw[T];obtain⟨u,rfl,ru⟩:=r.one;cases ru;obtain⟨u2,rfl,t2,rfl⟩:=rz.one;show KC _ _ (call (.builtin "max") [.ref a] [("default",.int d t2)]) _ _ _;obtain⟨its,rv,N,_⟩:=F.list hq;have hl:its.length=ns.length:=by have:=rv.length;rw[Ad] at this;lia
 have z:∀(i:Nat) (v:KB),its.toArray[i]?=some v->∃t,v=.int (ns.getD i 0) t:=fun i v E=>by
  have D:its[i]?=some v:=by simpa using E
  have hi:i<ns.length:=by rw[<- hl];exact (Az.mp D).1
  obtain⟨w',hw,L⟩:=rv.get (show (ns.map V.int)[i]?=some (.int ns[i]) by rw[Am,Af hi];rfl);rw[D] at hw;cases hw;obtain⟨t,rfl⟩:=L;exact⟨t,by rw[Cq,Af hi];rfl⟩
 have w:a<G.heap.objs.size:=by obtain⟨o,ho,_⟩:=N.isList;exact Ar ho
 refine a1f (C5 N.isList ⟨G.heap.objs.size,_,_,_,_,_,fun i j=>decide (ns.getD i 0>ns.getD j 0),rfl,JB (show X.A.in1.handled=none from F.ok.hd hc) G.heap.objs.size a (AC w) its.toArray,⟨?_,?_⟩,fun b hb=>?_,CmpOf.ints_gt (fun i=>ns.getD i 0) z,fun hn h' tk P=>?_,fun hn v h' tk E P=>?_⟩)
 . exact⟨_,An _ rfl,rfl,rfl⟩
 . exact N.isList.push _
 . rw[Br];simp only[Ah,Av,or_false] at hb;rcases hb with rfl|rfl
   . exact Ce _
   . exact C6 w
 . rw[Ao] at hn;refine⟨.int d,m,F.kept (t':=tk) fun b o g=>P b o (by simp only[Ah,Av,or_false];exact AC (Ar g)) (Ac _ g),⟨t2,rfl⟩,q0 (B8 (by lia))⟩
 . obtain⟨t,rfl⟩:=z _ _ E;have hb:=argBest_gt (fun i=>ns.getD i 0) (its.toArray.size-1);rw[Ao] at hb E hn;have hi:argBest (fun i j=>decide (ns.getD i 0>ns.getD j 0)) (its.length-1)<ns.length:=by have:=hb.1;lia
   refine⟨.int _,m,F.kept (t':=tk) fun b o g=>P b o (by simp only[Ah,Av,or_false];exact AC (Ar g)) (Ac _ g),⟨t,rfl⟩,q1 _ ?_ fun n J=>?_⟩
   . rw[Ao,Cq,Af hi];exact CB hi
   . obtain⟨j,hj,rfl⟩:=Fp J;have:=hb.2 j (by lia);rw[Cq,Af hj] at this;rw[Ao];simpa using this
theorem xo(hc:X.calm=true):MtR X "str.index" (fun x vs H Q=>∃z y,x=.str z/\vs=[.str y]/\0<=JV z y/\Q (.int (JV z y)) H):=by
 intro a s σ H x vs v us Q I c d h;obtain⟨z,y,rfl,rfl,hz,q⟩:=h;obtain⟨t,rfl⟩:=c;obtain⟨u,rfl,b⟩:=d.one;obtain⟨t2,rfl⟩:=b;refine index_or (I.ok.hd hc) (fun hn=>absurd hz (by lia)) fun _ _=>⟨.int _,H,I.tok _,⟨_,rfl⟩,q⟩
noncomputable def AlV(K:Ab)(H:Hp)(v v':V):Prop:=(a52 v=true/\v'=v)\/∃d,Dp K H v d/\Dp K H v' d/\EqOk d
noncomputable def a62(K:Ab):R2:=fun x y H Q=>∃a b xs ys,x=.ref a/\y=.ref b/\SqT K H a xs/\SqT K H b ys/\xs≠[]/\ys≠[]/\xs.length+ys.length<=KF/\∀p,H p=none->Q (.ref p) (upd H p (.tup (xs++ys)))
theorem su{K:Ab}(hK:X.K=K):OpR X (Ki .Add) (a62 K):=by
 subst hK;intro c s σ H x y v u Q I g f h;obtain⟨a,b,xs,ys,rfl,rfl,ha,hb,d,e,hz,q⟩:=h;exact wf c s σ H (.ref a) (.ref b) v u Q I g f ⟨a,b,xs,ys,rfl,rfl,ha,hb,d,hz,fun z=>absurd z e,fun _ p hp=>q p hp⟩
theorem ur{K:Ab}(hK:X.K=K):SlR X (a16 K):=by subst hK;exact oj
theorem mu:ku X (.type "int") (fun xs H Q=>∃b:Bool,xs=[.bl b]/\Q (.int (if b=true then 1 else 0)) H):=by
 intro a s σ H xs us Q I r h;obtain⟨b,rfl,q⟩:=h;obtain⟨u,rfl,c⟩:=r.one;cases c;exact PySem.call_int_bool ⟨.int _,H,I.tok _,⟨_,rfl⟩,q⟩
theorem adi{K:Ab}(hK:X.K=K):OpR X (KL .In) (rIn K false):=by subst hK;exact sn
theorem oq{K:Ab}(hK:X.K=K)(hl:QE X l tl):QI X a l (a5l K tl):=by subst hK;exact me hl
theorem a40{K:Ab}(hK:X.K=K)(hl:QE X l tl):QI X a l (iTup K tl):=by subst hK;exact aee hl
theorem rp{K:Ab}(hK:X.K=K):SlR X (rSlL K):=by subst hK;exact adg
end L2
namespace K55
open L2 Mir
theorem szLn(n:Nat)(h:autoParam (n<=KF) a1_):n<=KF:=h
theorem iteS{x y:Str}{A B:Prop}(n:¬ x=y)(k:B):if decide (V.str x=V.str y)=true then A else B:=iteB (fun c=>absurd (V.str.inj (of_decide_eq_true c)) n) fun _=>k
theorem iteT{b:Bool}{A B:Prop}(k:A)(h:autoParam (b=true) a1_):if b=true then A else B:=by rw[if_pos h];exact k
theorem iteU{b:Bool}{A B:Prop}(k:B)(h:autoParam (¬ b=true) a1_):if b=true then A else B:=by rw[if_neg h];exact k
theorem i5(h:∀(c:Ends),(∀(σ:St) (H:Hp),b D σ H->c.nx σ H)->(∀v H,D.rt v H->c.rt v H)->(∀σ H,D.ct σ H->c.ct σ H)->tAsg x y c σ H):tSeq (tAsg x y) b D σ H:=ke h
theorem kq(h:∀(c:Ends),(∀(σ:St) (H:Hp),b D σ H->c.nx σ H)->(∀v H,D.rt v H->c.rt v H)->(∀σ H,D.ct σ H->c.ct σ H)->tFor x y z c σ H):tSeq (tFor x y z) b D σ H:=ke h
theorem m3(h:∀(c:Ends),(∀(σ:St) (H:Hp),b D σ H->c.nx σ H)->(∀v H,D.rt v H->c.rt v H)->(∀σ H,D.ct σ H->c.ct σ H)->tIfS x y z c σ H):tSeq (tIfS x y z) b D σ H:=ke h
theorem ik(ha:QE X a ta)(hb:QE X b tb)(h:autoParam (qu b) a7_):QE X (.Subscript a b pos) (tOp (rIxT X.K) ta tb):=mq vc ha hb h
theorem sv(ha:QE X a ta)(hb:QE X b tb)(h:autoParam (qu b) a7_):QE X (.Subscript a b pos) (tOp (rIxL X.K) ta tb):=mq wz ha hb h
theorem i6(o:OpR X (KL op) r)(ha:QE X a ta)(hb:QE X b tb)(h:Kk op b=false:=by exact ly _):QT X (.Compare a [op] [b] pos) (t9 (tOp r ta tb)):=tm o ha hb h
theorem im(K:Ab)(b:QE X e c)(h:autoParam (X.K=K) a3_)(hb:autoParam (KQ e a X.env (eval e X.env)=eval e X.env) a3_):QE X (.Attribute e a pos) (tFld K c a):=by subst h;exact a79 b hb
theorem mh(K:Ab)(hm:X.mg "len"=none)(ha:QA X (e::es) t)(hK:autoParam (X.K=K) a3_)(hg:autoParam (Gl X "len") a3_)(he:autoParam (KD (e::es) X.env=(false,eval e X.env)::KD es X.env) a3_)(hpl:autoParam ((KP pos (KD es X.env)).any (·.1)=false) a3_):QE X (.Call (.Name "len" p) (e::es) [] pos) (tCB (fun xs H Q=>∃p ys,xs=[.ref p]/\(SqL K H p ys\/SqT K H p ys)/\Q (.int ys.length) H) t):=lx (lenK hK) hg hm CD ha (by decide) (by decide) he hpl
end K55
namespace L2
noncomputable def zipF(p:Str->Bool)(as bs:List Str):List Str:=((as.zip bs).filter fun x=>p x.1).map (·.2)
theorem a78{K:Ab}(as bs:List Str)(p:Str->Bool)(y:SqT K d l1 (as.map V.str))(s:SqT K d l2 (bs.map V.str))(hl:as.length=bs.length)(hz:as.length<=1000)(ht:∀a b n,∀j:Bool->Hp->Prop,j (p a) n->M (some (.str a)::some (.str b)::j6 σ z) n j)(C:∀a b n,∀j:VK,j (.str b) n->L (some (.str a)::some (.str b)::j6 σ z) n j)(F:∀D H',d D=none->Same d H'->H' D=some (.lst ((zipF p as bs).map V.str))->Q (.ref D) H'):a3v K (Ity K l1 l2) d σ z M L Q:=by
 intro D A;have put:∀H ys,Same d H->Same d (upd H D (.lst ys)):=fun H ys e b u q=>by rw[f6 (gh q A)];exact e b u q
 have J:(as.zip bs).length=as.length:=by rw[Ec,<- hl,Gx]
 refine⟨fun i m H=>i<=as.length/\m=as.length-i/\Same d H/\H D=some (.lst (((((as.zip bs).take i).filter fun x=>p x.1).map (·.2)).map V.str)),⟨as.length,AH _,rfl,put _ _ (Same.refl _),g8⟩,?_⟩;rintro i m H ⟨hi,rfl,e,f⟩;by_cases g:i<as.length
 . have ha:as[i]?=some as[i]:=Af g;have hb:bs[i]?=some (bs[i]'(by lia)):=Af (by lia);generalize as[i]=a at ha;generalize bs[i]'(by lia)=b at hb;refine .inr ⟨⟨_,_,.str a,.str b,e.seqT y,e.seqT s,by rw[Am,ha];rfl,by rw[Am,hb];rfl⟩,fun x H' G=>?_⟩;obtain⟨P,R,N,g1,E,I,rfl,rfl⟩:=G;have r:=g1 _ (e.seqT y);have h:=E _ (e.seqT s);rw[Am,ha] at r;rw[Am,hb] at h;cases r;cases h;have v:=gk I (.tup [V.str a,V.str b]);have o:(as.zip bs)[i]?=some (a,b):=by rw[Ed];exact⟨ha,hb⟩
   refine⟨N,_,_,rfl,SqT.of g8,ht a b _ _ ?_⟩;have l:=v _ _ f;cases c:p a with
   | true =>
    rw[if_pos rfl];refine C a b _ _ ⟨_,l,Ba ?_ (show 1000<KF by decide),as.length-(i+1),by lia,g,rfl,put _ _ (e.trans v),?_⟩
    . rw[Ad,Ad];have:=BP (fun x:Str×Str=>p x.1) ((as.zip bs).take i);rw[AQ] at this
      lia
    . rw[g8,BY,o,Ek,Ax,Ax];show _=some (HO.lst (_++((([(a,b)].filter fun x:Str×Str=>p x.1).map (·.2)).map V.str)));rw[Ey (by exact c)];rfl
   | false =>
    rw[if_neg Ak];refine⟨as.length-(i+1),by lia,g,rfl,e.trans v,?_⟩;rw[l,BY,o,Ek];show _=some (HO.lst (((_++([(a,b)].filter fun x:Str×Str=>p x.1)).map (·.2)).map V.str));rw[Ez (by simp[c])];simp
 . have O:i=as.length:=by lia
   subst O;have w:(as.zip bs).take as.length=as.zip bs:=Bi (by rw[J];exact Aj _);rw[w] at f;exact .inl ⟨⟨_,_,e.seqT y,e.seqT s,by rw[Ad];exact Aj _⟩,F D H A e f⟩
theorem ww{l:List α}{g:α->List β}{x:α}(h:l[i]?=some x):(l.take (i+1)).flatMap g=(l.take i).flatMap g++g x:=by
 rw[BY,h,Ca];simp
theorem aft(l:List α)(g:α->List β)(i:Nat):((l.take i).flatMap g).length<=(l.flatMap g).length:=by
 have:l.flatMap g=(l.take i).flatMap g++(l.drop i).flatMap g:=by rw[<- Ca,Ib]
 rw[this,Ai];exact BE _ _
theorem a7y{l:List α}{g:α->List β}{x:α}(h:l[i]?=some x):((l.take i).flatMap g).length+(g x).length<=(l.flatMap g).length:=by
 have:=aft l g (i+1);rw[ww h,Ai] at this;exact this
end L2
namespace K55
open L2 Mir
abbrev a2o:KN:=top 14
abbrev sAll:KN:=top 18
abbrev a6f:KN:=top 19
abbrev DeedS(K:Ab)(H:Hp)(t:KA)(d:Deed):Prop:=DeedX K H (fun _ _=>True) t d
theorem DeedS.same(h:DeedS K H t d)(e:Same H H'):DeedS K H' t d:=DeedX.same h e fun _ _ z=>z
noncomputable def allD(f:List Deed->List Deed)(d:Deed):List Deed:=d::(innL d).flatMap f
noncomputable def allL:List Nat->List Deed->List Deed
 | [],_=>[]
 | _::bs,ds=>ds.flatMap (allD (allL bs))
inductive spAll(K:Ab)(bs:List Nat)(vs:List V)(H:Hp)(Q:VK)(E:XK):Prop
 | mk (G:Hp)(l:KA)(ds:List Deed)(h0:vs=[.ref l])(e:Same G H)(h1:ListX K G bs l ds)(h4:(allL bs ds).length<=100)(q:∀fo us H',Same H H'->H fo=none->H' fo=some (.lst (us.map V.ref))->KI (DeedS K G) us (allL bs ds)->Q (.ref fo) H'):spAll K bs vs H Q E
inductive AI(K:Ab)(bs:List Nat)(G H:Hp)(l fo:KA)(ds:List Deed)(i:Nat)(σ:St)(H2:Hp):Prop
 | mk (us:List KA)(z2 z3:Option V)(e:Same H H2)(hf:H2 fo=some (.lst (us.map V.ref)))(hp:KI (DeedS K G) us ((ds.take i).flatMap (allD (allL bs))))(hσ:σ=[rQ l,rQ fo,z2,z3])
inductive AJ(K:Ab)(bs:List Nat)(G H:Hp)(l fo ll:KA)(as:List KA)(pre:List Deed)(is:List (List Deed))(v2:V)(j:Nat)(σ:St)(H2:Hp):Prop
 | mk (us:List KA)(z3:Option V)(e:Same H H2)(hl:H2 ll=some (.lst (as.map V.ref)))(hf:H2 fo=some (.lst (us.map V.ref)))(hp:KI (DeedS K G) us (pre++(is.take j).flatMap (allL bs)))(hσ:σ=[some (.ref l),some (.ref fo),some v2,z3])
theorem a5k(C:Con K mg w)(F:GF K "lists_in" a2o):FC K mg w 1 "lists_in" spLists:=by
 refine F.ok C.gf 1 ["deed"] fun H vs Q E hr h nd=>?_;rcases h with⟨t,i,o,c,rfl,h,q⟩|⟨t,i,c,d,rfl,h,q⟩|⟨t,g,a,rfl,h,n1,n2,q⟩
 . refine⟨_,gc (ij (i6 ig (ik (qv 0) dn) i7) (gi (gz (i9 (gq (ik (qv 0) dn) (gq (ik (qv 0) dn) ad))))) iq)
   (gi (gz (ng (i6 ig (ik (qv 0) dn) i7) (i9 (gq (ik (qv 0) dn) ad)) (i9 ad)))),?_⟩
   refine⟨_,rfl,t,_,0,_,rfl,rfl,SqT.of h,rfl,rfl,_,rfl,iteT ?_⟩;exact⟨_,rfl,t,_,2,_,rfl,rfl,SqT.of h,rfl,_,rfl,t,_,3,_,rfl,rfl,SqT.of h,rfl,(szLn 2),q⟩
 . refine⟨_,gc (ij (i6 ig (ik (qv 0) dn) i7) (gi (gz (i9 (gq (ik (qv 0) dn) (gq (ik (qv 0) dn) ad))))) iq)
   (gi (gz (ng (i6 ig (ik (qv 0) dn) i7) (i9 (gq (ik (qv 0) dn) ad)) (i9 ad)))),?_⟩
   refine⟨_,rfl,t,_,0,_,rfl,rfl,SqT.of h,rfl,rfl,_,rfl,iteU ?_⟩;refine⟨_,rfl,t,_,0,_,rfl,rfl,SqT.of h,rfl,rfl,_,rfl,iteT ?_⟩;exact⟨_,rfl,t,_,3,_,rfl,rfl,SqT.of h,rfl,(szLn 1),q⟩
 . refine⟨_,gc (ij (i6 ig (ik (qv 0) dn) i7) (gi (gz (i9 (gq (ik (qv 0) dn) (gq (ik (qv 0) dn) ad))))) iq)
   (gi (gz (ng (i6 ig (ik (qv 0) dn) i7) (i9 (gq (ik (qv 0) dn) ad)) (i9 ad)))),?_⟩
   refine⟨_,rfl,t,_,0,_,rfl,rfl,SqT.of h,at0,rfl,_,rfl,iteS n1 ?_⟩;refine⟨_,rfl,t,_,0,_,rfl,rfl,SqT.of h,at0,rfl,_,rfl,iteS n2 ?_⟩;exact⟨AH _,q⟩
theorem acm:FnOk P w K mg base CX0 1 f fd ["deeds"] (spAll K []) :=
 ⟨fun vs H Q E h=>by obtain⟨G,l,ds,_,_,a,_⟩:=h;exact a.elim,fun A outer s H args us vs Q E _ _ _ _ h=>by obtain⟨G,l,ds,_,_,a,_⟩:=h;exact a.elim⟩
theorem u7(C:Con K mg w)(F:GF K "all_deeds" sAll)(GS:FC K mg w 1 "lists_in" spLists)(GR:FC K mg w (n+1) "all_deeds" (spAll K bs)):FC K mg w (n+1+1) "all_deeds" (spAll K (b::bs)):=by
 refine F.ok C.gf 1 ["deeds","found","deed","inner"] fun H vs Q E hr h nd=>?_;obtain⟨G,l,ds,rfl,eG,Y,T,q⟩:=h;obtain⟨ts,aj,hp,ar⟩:=Y;have hl:=eG _ _ aj;have ab:=hr.mono (j:=1) (by lia);refine⟨_,gc (gu 1 nd (i9 ad))
  (gc (jv AN rfl (me (qv 0)) (jd 2 nd) (gc (ia (jr (K:=K) rfl AF Bg Bh jo (qv 1) (gj (qv 2) ad)))
  (gi (jv AN rfl (me (gr GS ab (gj (qv 2) ad))) (jd 3 nd) (gi (ia (jr (K:=K) rfl AF Cw Cz qg (qv 1) (gw (gr GR hr (gj (qv 3) ad)) ad))))))))
  (gi (gz (qv 1)))),?_⟩
 have ak:=Ay hp;have al:(ds.flatMap (allD (allL bs))).length<=100:=T;refine⟨AH _,fun m u=>?_⟩;obtain⟨H1,z0,s1,k1⟩:=gs u (.lst []);rw[z0];dsimp only[gt];refine kq fun D1 am ap aq=>?_;refine⟨_,rfl,l,rfl,⟨_,SqL.of (s1 _ _ hl)⟩,?_⟩;refine ld (xs:=ts.map V.ref) (AI K bs G H l m ds) ⟨[],none,none,s1,k1,.nil,rfl⟩ (fun i σ H' _ z=>by obtain⟨us,_,_,e,_⟩:=z;exact SqL.of (e _ _ hl)) ?_ ?_
 . rintro i x σ N hx ⟨us,z2,z3,e,X,r,rfl⟩;rw[Am] at hx;obtain⟨t,ht,rfl⟩:=AZ.mp hx;obtain⟨d,hd,hX⟩:=Paired.nth hp ht;have hsz:=a7y (g:=allD (allL bs)) hd;have ae:=ww (g:=allD (allL bs)) hd;have O:allD (allL bs) d=d::(innL d).flatMap (allL bs):=rfl;rw[O,AB] at hsz;have ac:=Ay r;refine⟨_,rfl,(.inl ⟨rfl,_,SqL.of X⟩),_,rfl,m,_,_,rfl,rfl,X,j9 (by rw[Ad,ac];lia),?_⟩;have k3:(upd N m (.lst (us.map V.ref++[.ref t]))) m=some (.lst ((us++[t]).map V.ref)):=by rw[g8,Ax];rfl
   have e3:Same H (upd N m (.lst (us.map V.ref++[.ref t]))):=fun b o z=>by rw[f6 (gh z u)];exact e _ _ z
   have U:KI (DeedS K G) (us++[t]) ((ds.take i).flatMap (allD (allL bs))++[d]):=Paired.snocP r (DeedX.same hX (Same.refl _) fun _ _ _=>trivial);generalize upd N m (.lst (us.map V.ref++[.ref t]))=H3 at k3 e3 |-;generalize us++[t]=aa at k3 U;dsimp only[gt];refine⟨_,rfl,a9i hX (eG.trans e3) rfl fun D as L J=>?_⟩;have s4:=gk L (.lst (as.map V.ref));have k4:(upd H3 D (.lst (as.map V.ref))) D=some (.lst (as.map V.ref)):=g8;have ai:D≠m:=(gh k3 L).symm;generalize upd H3 D (.lst (as.map V.ref))=H4 at s4 k4 |-;refine⟨D,rfl,⟨_,SqL.of k4⟩,?_⟩;refine ld (xs:=as.map V.ref) (AJ K bs G H l m D as ((ds.take i).flatMap (allD (allL bs))++[d]) (innL d) (.ref t)) ⟨aa,z3,e3.trans s4,k4,s4 _ _ k3,(by simpa using U),rfl⟩ (fun j σ H' _ z=>by obtain⟨_,_,_,h,_⟩:=z;exact SqL.of h) ?_ ?_
   . rintro j x σ H5 S ⟨y,y3,W,M,s,p,rfl⟩;rw[Am] at S;obtain⟨c,hc,rfl⟩:=AZ.mp S;obtain⟨a,ha,ag⟩:=Paired.nth J hc;have an:=a7y (g:=allL bs) ha;have v:=Ay p;rw[Ai,Ai] at v;have h1:[d].length=1:=rfl;refine⟨_,rfl,(.inl ⟨rfl,_,SqL.of s⟩),_,rfl,G,c,a,rfl,eG.trans W,ag,(by lia),fun ah Z H6 e6 _ k6 I=>?_⟩;have R:=Ay I;have af:=e6 _ _ s;refine⟨m,ah,_,_,rfl,rfl,af,k6,io (by rw[Ad,Ad,v,R];lia),?_⟩;refine⟨y++Z,_,fun b o z=>by rw[f6 (gh z u)];exact e6 _ _ (W _ _ z),by rw[f6 ai];exact e6 _ _ M,by rw[g8,Ax],?_,rfl⟩;rw[ww (g:=allL bs) ha,<- DF];exact Paired.app p I
   . rintro σ H5 ⟨y,y3,W,M,s,p,rfl⟩;refine⟨y,_,_,W,s,?_,rfl⟩;have:(innL d).take (as.map V.ref).length=innL d:=Bi (by rw[Ad,Ay J];exact Aj _);rw[this] at p;rw[ae,O,<- HS,<- DF];exact p
 rintro σ N ⟨us,z2,z3,e,X,r,rfl⟩;have:ds.take (ts.map V.ref).length=ds:=Bi (by rw[Ad,ak];exact Aj _);rw[this] at r;exact am _ _ ⟨_,rfl,q m us N e u X r⟩
abbrev a1m:KN:=top 20
abbrev yl:KN:=top 21
noncomputable def a2s(x:Str):Bool := !decide (V.str x=V.str "field")
noncomputable def jc(h:Str)(r:List Str):List Str:=match forms.lookup h with
 | some fs=>zipF a2s fs r
 | none=>[]
noncomputable def wrdP:Pl->List Str
 | .row (h::r)=>jc h r
 | .row []=>[]
 | .call x _ vs=>x::vs
noncomputable def wrd:Deed->List Str
 | .plain p=>wrdP p
 | .cond r _ _=>r.drop 1
 | .loop r F P _=>r.drop 1++words (F++P)
structure TOk(xs:List Str)(F P:List (List Str)):Prop where
 f:sj F
 p:sj P
 ne:∀r∈F++P,r≠[]
 sub:∀y∈words (F++P),y∈xs
structure ROk(r:List Str):Prop where
 len:r.length=3
 sh:∀y∈r,Short y
noncomputable def DOk(xs:List Str):Deed->Prop
 | .plain (.row r)=>∀y∈r,Short y
 | .plain (.call x c vs)=>Short x/\vs.length<=8/\∀y∈vs,Short y
 | .cond r _ _=>ROk r
 | .loop r F P _=>ROk r/\TOk xs F P
theorem TOk.few(h:TOk xs F P)(b:xs.length<=20){a:List Str}(hn:a.Nodup)(hs:∀y∈a,y∈words (F++P)):a.length<=20:=Aw (AV hn fun y c=>h.sub y (hs y c)) b
theorem xu:∀{rs:List (List Str)}{y:Str},(∀r∈rs,∀x∈r,Short x)->y∈words rs->Short y:=fun {rs y} h a=>by
 unfold words at a;obtain⟨l,hl,a⟩:=List.mem_flatten.mp a;obtain⟨r,hr,rfl⟩:=AA.mp hl;exact h r hr y (C0 (Du.mp a).1)
inductive spWords(K:Ab)(vs:List V)(H:Hp)(Q:VK)(E:XK):Prop
 | mk (t:KA)(d:Deed)(xs:List Str)(h0:vs=[.ref t])(h1:DeedS K H t d)(h2:DOk xs d)(h3:xs.length<=20)(q:∀(l:KA) (ws:List Str) (H':Hp),Same H H'->H' l=some (.lst (ws.map V.str))->(∀y,y∈ws↔y∈wrd d)->ws.length<=30->Q (.ref l) H'):spWords K vs H Q E
theorem yg:(forms.map (·.1)).Nodup:=by decide
theorem a6b:∀x∈forms,x.2.length<=3:=by decide
theorem uw:∀{l:List (Str×β)}{h:Str}{b:β},(l.map (·.1)).Nodup->(h,b)∈l->l.lookup h=some b
 | [],_,_,_,hm=>by cases hm
 | (k,c)::l,h,b,hn,hm=>by
  rw[As,Bc] at hn;by_cases e:h=k
  . subst e;rcases Ah.mp hm with z|z
    . cases z;rw[List.lookup_cons_self]
    . exact absurd (AA.mpr ⟨_,z,rfl⟩) hn.1
  . rcases Ah.mp hm with z|z
    . cases z;exact absurd rfl e
    . rw[Cf];have:(h==k)=false:=beq_false_of_ne e;rw[this];exact uw hn.2 z
theorem aax(p:Str->Bool)(as bs:List Str):(zipF p as bs).length<=as.length:=by grind [zipF]
theorem a33(C:Con K mg w)(F:GF K "words_of" a6f)(GN:FC K mg w 1 "names_of" (wq K)):FC K mg w 2 "words_of" (spWords K):=by
 refine F.ok C.gf 1 ["deed"] fun H vs Q E hr h nd=>?_;obtain⟨t,d,xs,rfl,hX,hok,M,q⟩:=h;obtain⟨aF,j,gF,kF,nF,rF⟩:=C.forms;refine⟨_,gc (ij (i6 ig (ik (qv 0) dn) i7) (gi (gz (gp ky (i9 (gq (ik (qv 0) dn) ad)) (ii jl rfl C.list Bt (gq (ik (qv 0) dn) ad))))) iq)
  (gc (ij (i6 ig (ik (qv 0) dn) i7) (gi (gz (ii jl rfl C.list Bt (gq (ja oj (ik (qv 0) dn) (j8 dn) jp) ad)))) iq)
  (gc (ij (i6 ig (ik (qv 0) dn) i7) (gi (gz (gp ky (ii jl rfl C.list Bt (gq (ja oj (ik (qv 0) dn) (j8 dn) jp) ad)) (gr GN hr (gq (ik (qv 0) dn) ad))))) iq)
  (gi (gz (a71 (K:=K) rfl ["sort","word"] [] (adp rfl C.zip (gq (acl (K:=K) (w:=w) rfl rfl (qe_g gF) (ik (qv 0) dn) (fun _ _=>rfl)) (gq (ja oj (qv 0) (j8 dn) jp) ad))) (fun _ _ _ _=>(a02 (i6 uz (qv 0) i7))) (fun _ _ _ _=>(qv 1))))))),?_⟩
 cases hX with
 | plain p h1 h2 =>
  cases p with
  | call x c vs =>
   obtain⟨v,m,X⟩:=h1;obtain⟨ox,ol,ov⟩:=hok;refine⟨_,rfl,t,_,0,_,rfl,rfl,SqT.of m,rfl,rfl,_,rfl,iteT ?_⟩;refine⟨_,rfl,t,_,1,_,rfl,rfl,SqT.of m,rfl,(szLn 1),fun l1 ae=>?_⟩;obtain⟨G,z0,S,k1⟩:=gs ae (.lst [.str x]);rw[z0];refine⟨_,rfl,t,_,3,_,rfl,rfl,SqT.of (S _ _ m),rfl,v,_,rfl,.inr (SqT.of (S _ _ X)),fun l2 T=>?_⟩;have s:=gk T (.lst (vs.map V.str));refine⟨l1,l2,_,_,rfl,rfl,s _ _ k1,g8,io (by rw[Ad];show 1+_<=1000;lia),fun l3 aa=>?_⟩;have s3:=gk aa (.lst ([V.str x]++vs.map V.str));exact q l3 (x::vs) _ ((S.trans s).trans s3) g8 (fun y=>EU) (by rw[AB];lia)
  | row r =>
   obtain⟨⟨h,g,fs,rfl,J,hl⟩,okr⟩:=h2;have e:H t=some (.tup (.str h::g.map V.str)):=h1;obtain⟨n1,n2,n3⟩:=yk _ J;have ag:fs.length<=3:=a6b _ J;refine⟨_,rfl,t,_,0,_,rfl,rfl,SqT.of e,at0,rfl,_,rfl,iteS n3 ?_⟩;refine⟨_,rfl,t,_,0,_,rfl,rfl,SqT.of e,at0,rfl,_,rfl,iteS n1 ?_⟩;refine⟨_,rfl,t,_,0,_,rfl,rfl,SqT.of e,at0,rfl,_,rfl,iteS n2 ?_⟩;obtain⟨n,W,u⟩:∃n,(j.map fun x=>(x.1,V.ref x.2)).lookup h=some (.ref n)/\∀H',SqT K H' n (fs.map V.str):=by
    have hm:h∈j.map (·.1):=by rw[nF];exact AA.mpr ⟨_,J,rfl⟩
    obtain⟨⟨h',n⟩,z,rfl⟩:=AA.mp hm;refine⟨n,uw ?_ (AA.mpr ⟨_,z,rfl⟩),rF _ _ _ z J⟩;rw[BA];show (j.map (·.1)).Nodup;rw[nF];exact yg
   refine⟨_,rfl,t,_,0,_,rfl,rfl,SqT.of e,at0,aF,_,h,_,rfl,rfl,kF,W,?_⟩;refine⟨_,rfl,_,rfl,t,_,rfl,SqT.of e,fun p1 G L k1=>?_⟩;have hc:cutV (V.str h::g.map V.str) (some 1) none=g.map V.str:=by
    have:=wm (r:=h::g) (k:=1);simpa using this
   rw[show cutV (V.str h::g.map V.str) (some (1:Int)) none=g.map V.str from hc] at k1;refine⟨n,p1,_,_,rfl,u _,k1,?_⟩;refine a78 fs g a2s (u _) k1 hl (by lia) (fun a b H2 Q' Z=>⟨_,rfl,rfl,_,rfl,Z⟩) (fun a b H2 Q' Z=>⟨_,rfl,Z⟩) (fun D H' hD e' U=>?_);refine q D _ H' (L.trans e') U (fun y=>?_) (Aw (aax _ _ _) (by lia));show _↔y∈jc h g;unfold jc;rw[uw yg J]
 | cond c i o r a b h hc okr hi ho =>
  refine⟨_,rfl,t,_,0,_,rfl,rfl,SqT.of h,rfl,rfl,_,rfl,iteU ?_⟩;refine⟨_,rfl,t,_,0,_,rfl,rfl,SqT.of h,rfl,rfl,_,rfl,iteT ?_⟩;have R:r.length=3:=ROk.len hok;refine⟨_,rfl,t,_,1,_,rfl,rfl,SqT.of h,rfl,_,rfl,c,_,rfl,SqT.of hc,fun p1 G L k1=>?_⟩;rw[show cutV (r.map V.str) (some (1:Int)) none=(r.drop 1).map V.str from wm (r:=r) (k:=1)] at k1;refine⟨p1,_,rfl,.inr k1,fun l hl=>?_⟩;exact q l (r.drop 1) _ (L.trans (gk hl _)) g8 (fun y=>EU) (by rw[Bb];lia)
 | loop c td i fa pa r F' P' a h hc okr htd hF hP okF okP lF lP hi =>
  obtain⟨ac,O⟩:=hok;have R:r.length=3:=ROk.len ac;refine⟨_,rfl,t,_,0,_,rfl,rfl,SqT.of h,rfl,rfl,_,rfl,iteU ?_⟩;refine⟨_,rfl,t,_,0,_,rfl,rfl,SqT.of h,rfl,rfl,_,rfl,iteU ?_⟩;refine⟨_,rfl,t,_,0,_,rfl,rfl,SqT.of h,rfl,rfl,_,rfl,iteT ?_⟩;refine⟨_,rfl,t,_,1,_,rfl,rfl,SqT.of h,rfl,_,rfl,c,_,rfl,SqT.of hc,fun p1 G L k1=>?_⟩;rw[show cutV (r.map V.str) (some (1:Int)) none=(r.drop 1).map V.str from wm (r:=r) (k:=1)] at k1;refine⟨p1,_,rfl,.inr k1,fun l hl=>?_⟩;obtain⟨H2,z1,s,k2⟩:=gs hl (.lst ((r.drop 1).map V.str));rw[z1];have I:=L.trans s;refine⟨_,rfl,t,_,2,_,rfl,rfl,SqT.of (I _ _ h),rfl,td,F',P',rfl,⟨[fa,pa],SqT.of (I _ _ htd),.cons (hF.same I) (.cons (hP.same I) .nil)⟩,O.f,O.p,O.ne,fun ss hn hs=>Ba (O.few M hn hs) (by decide),fun p zs H3 hp e3 k3 Y N ai=>?_⟩;have ah:=O.few M Y fun y hy=>(N y).mp hy;refine⟨l,p,_,_,rfl,rfl,e3 _ _ k2,k3,io (by rw[Ad,Ad,Bb];lia),fun l4 ab=>?_⟩;have s4:=gk ab (.lst ((r.drop 1).map V.str++zs.map V.str));refine q l4 (r.drop 1++zs) _ ((I.trans e3).trans s4) (by rw[g8,Ax]) (fun y=>?_) (by rw[Ai,Bb];lia);show _↔y∈r.drop 1++words (F'++P');rw[Aq,Aq,N y]
noncomputable def allW(bs:List Nat)(p:Prc):List Str:=p.ps++[p.res]++words (p.F1++p.P1)++words (p.F2++p.P2)++(allL bs p.body).flatMap wrd
structure PrcOk(bs:List Nat)(xs:List Str)(p:Prc):Prop where
 ps:p.ps.length<=8/\∀y∈p.ps,Short y
 res:Short p.res
 t1:TOk xs p.F1 p.P1
 t2:TOk xs p.F2 p.P2
 ds:∀d∈allL bs p.body,DOk xs d
 few:(allL bs p.body).length<=30
 len:xs.length<=20
 names:∀y∈allW bs p,i8 y=true->y∈xs
theorem aa2(c:y∈jc h r):y∈r:=by
 unfold jc at c;cases e:forms.lookup h with
 | none=>rw[e] at c;cases c
 | some fs =>
  rw[e] at c;obtain⟨⟨a,b⟩,d,rfl⟩:=AA.mp c;exact (Fd (Du.mp d).1).2
theorem DOk.short(h:DOk xs d)(e:y∈wrd d):Short y:=by
 cases d with
 | plain p =>
  cases p with
  | row r =>
   cases r with
   | nil=>cases e
   | cons h' r=>exact h y (Al _ (aa2 e))
  | call x c vs =>
   obtain⟨g,_,j⟩:=h;rcases Ah.mp e with rfl|z
   . exact g
   . exact j y z
 | cond r a b=>exact ROk.sh h y (C0 e)
 | loop r F P a =>
  obtain⟨g,i⟩:=h;rcases Aq.mp e with z|z
  . exact g.sh y (C0 z)
  . refine xu (fun r hr=>?_) z;rcases Aq.mp hr with z|z
    . exact (i.f.2 r z).2
    . exact (i.p.2 r z).2
theorem TOk.short(a:TOk xs F P)(b:y∈words (F++P)):Short y:=by
 refine xu (fun r hr=>?_) b;rcases Aq.mp hr with z|z
 . exact (a.f.2 r z).2
 . exact (a.p.2 r z).2
theorem a4z(h:PrcOk bs xs p)(a:y∈allW bs p):Short y:=by
 unfold allW at a;simp only[Aq,Ap] at a;rcases a with (((z|z)|z)|z)|z
 . exact h.ps.2 y z
 . rw[z];exact h.res
 . exact h.t1.short z
 . exact h.t2.short z
 . obtain⟨d,hd,a⟩:=Bu.mp z;exact (h.ds d hd).short a
inductive spNamesIn(K:Ab)(bs:List Nat)(vs:List V)(H:Hp)(Q:VK)(E:XK):Prop
 | mk (G:Hp)(t:KA)(p:Prc)(xs:List Str)(h0:vs=[.ref t])(e:Same G H)(h1:PrcAt K G bs t p)(h2:PrcOk bs xs p)(q:∀(l:KA) (zs:List Str) (H':Hp),Same H H'->H l=none->H' l=some (.lst (zs.map V.str))->zs.Nodup->DV zs=true->(∀y,y∈zs↔i8 y=true/\y∈allW bs p)->Q (.ref l) H'):spNamesIn K bs vs H Q E
inductive NI(H:Hp)(t lo fo:KA)(us:List KA)(ds:List Deed)(pre:List Str)(i:Nat)(σ:St)(H2:Hp):Prop
 | mk (ws:List Str)(z2:Option V)(e:Same H H2)(hl:H2 lo=some (.lst (us.map V.ref)))(hf:H2 fo=some (.lst (ws.map V.str)))(hm:∀y,y∈ws↔y∈pre++(ds.take i).flatMap wrd)(hw:ws.length<=60+30*i)(hσ:σ=[some (.ref t),some (.ref fo),z2])
theorem a5m(aI:1<=n)(C:Con K mg w)(F:GF K "names_in" a1m)(GN:FC K mg w 1 "names_of" (wq K))(GA:FC K mg w (n+1) "all_deeds" (spAll K bs))(GW:FC K mg w 2 "words_of" (spWords K))(GI:FC K mg w 1 "is_name" (spB1 i8)):FC K mg w (n+1+1) "names_in" (spNamesIn K bs):=by
 refine F.ok C.gf 1 ["procedure","words","deed"] fun H vs Q E hr h nd=>?_;obtain⟨G,t,p,xs,rfl,eG,⟨pt,t1,t2,f1,p1,f2,p2,bd,x⟩,ok,q⟩:=h;have R:=hr.mono (j:=1) (by lia);have aq:=hr.mono (j:=2) (by lia);refine⟨_,gc (gu 1 nd (gp ky (gp ky (gp ky (ii jl rfl C.list Bt (gq (ik (qv 0) dn) ad)) (i9 (gq (ik (qv 0) dn) ad))) (gr GN R (gq (ik (qv 0) dn) ad))) (gr GN R (gq (ik (qv 0) dn) ad))))
  (gc (jv AN rfl (me (gr GA hr (gq (ik (qv 0) dn) ad))) (jd 2 nd) (gi (ia (jr (K:=K) rfl AF Cw Cz qg (qv 1) (gw (gr GW aq (gj (qv 2) ad)) ad)))))
  (gi (gz (lx (sq rfl) rfl C.sorted Eo (gw (ii (a2k rfl) rfl C.set HY (jk (qw (me (qv 1)) (fun _ _ _ _=>(a02 (a2z (gr GI R (gj (qv 0) ad))))) (fun _ _ _ _=>(qv 0))) ad)) ad))))),?_⟩
 have tp:=eG _ _ x.tup;refine⟨_,rfl,t,_,1,_,rfl,rfl,SqT.of tp,rfl,pt,_,rfl,.inr (SqT.of (eG _ _ x.pt)),fun l1 aj=>?_⟩;obtain⟨H1,z0,s1,k1⟩:=gs aj (.lst (p.ps.map V.str));rw[z0];refine⟨_,rfl,t,_,2,_,rfl,rfl,SqT.of (s1 _ _ tp),rfl,(szLn 1),fun l2 aa=>?_⟩;obtain⟨H2,z1,I,k2⟩:=gs aa (.lst [.str p.res]);rw[z1];have s2:=s1.trans I;have hps:=ok.ps.1;refine⟨l1,l2,_,_,rfl,rfl,I _ _ k1,k2,io (by rw[Ad];show _+1<=1000;lia),fun l3 ag=>?_⟩;have Y:=gk ag (.lst (p.ps.map V.str++[.str p.res]));have k3:(upd H2 l3 (.lst (p.ps.map V.str++[.str p.res]))) l3=some (.lst ((p.ps++[p.res]).map V.str)):=by rw[g8,Ax];rfl
 generalize upd H2 l3 (.lst (p.ps.map V.str++[.str p.res]))=H3 at Y k3 |-;have s3:=s2.trans Y;have g3:=eG.trans s3;refine⟨_,rfl,t,_,3,_,rfl,rfl,SqT.of (s3 _ _ tp),rfl,t1,p.F1,p.P1,rfl,⟨[f1,p1],SqT.of (g3 _ _ x.t1),.cons (x.f1.same g3) (.cons (x.p1.same g3) .nil)⟩,ok.t1.f,ok.t1.p,ok.t1.ne,fun ss hn hs=>Ba (ok.t1.few ok.len hn hs) (by decide),fun q4 c H4 aw T k4 af Z _=>?_⟩;have aB:=ok.t1.few ok.len af fun y s=>(Z y).mp s;have e4:=s3.trans T;refine⟨l3,q4,_,_,rfl,rfl,T _ _ k3,k4,io (by rw[Ad,Ad,Ai];show _+1+_<=1000;lia),fun l5 am=>?_⟩;have W:=gk am (.lst ((p.ps++[p.res]).map V.str++c.map V.str));have k5:(upd H4 l5 (.lst ((p.ps++[p.res]).map V.str++c.map V.str))) l5=some (.lst ((p.ps++[p.res]++c).map V.str)):=by rw[g8,Ax (l₁:=p.ps++[p.res])]
 generalize upd H4 l5 (.lst ((p.ps++[p.res]).map V.str++c.map V.str))=H5 at W k5 |-;have s5:=e4.trans W;have g5:=eG.trans s5;refine⟨_,rfl,t,_,4,_,rfl,rfl,SqT.of (s5 _ _ tp),rfl,t2,p.F2,p.P2,rfl,⟨[f2,p2],SqT.of (g5 _ _ x.t2),.cons (x.f2.same g5) (.cons (x.p2.same g5) .nil)⟩,ok.t2.f,ok.t2.p,ok.t2.ne,fun ss hn hs=>Ba (ok.t2.few ok.len hn hs) (by decide),fun q6 S H6 ar O k6 ab U _=>?_⟩;have au:=ok.t2.few ok.len ab fun y s=>(U y).mp s;have e6:=s5.trans O;refine⟨l5,q6,_,_,rfl,rfl,O _ _ k5,k6,io (by rw[Ad,Ad,Ai,Ai];show _+1+_+_<=1000;lia),fun L an=>?_⟩;have X:=gk an (.lst ((p.ps++[p.res]++c).map V.str++S.map V.str));have k7:(upd H6 L (.lst ((p.ps++[p.res]++c).map V.str++S.map V.str))) L=some (.lst ((p.ps++[p.res]++c++S).map V.str)):=by rw[g8,Ax (l₁:=p.ps++[p.res]++c)]
 have ay:H L=none:=e6.free an;generalize upd H6 L (.lst ((p.ps++[p.res]++c).map V.str++S.map V.str))=H7 at X k7 |-;have s7:=e6.trans X;have M:∀y,y∈p.ps++[p.res]++c++S↔y∈p.ps++[p.res]++words (p.F1++p.P1)++words (p.F2++p.P2):=fun y=>by
  simp only[Aq,Z y,U y]
 have ai:(p.ps++[p.res]++c++S).length<=60:=by
  rw[Ai,Ai,Ai];show _+1+_+_<=60;lia
 generalize p.ps++[p.res]++c++S=w0 at k7 M ai;clear Z U af ab aB au k6 k5 k4 k3 k2 k1 X W Y I s2 s3 s5 e4 e6 g3 g5 T O aj aa ag am aw ar s1;dsimp only[gt];refine kq fun D1 ak aC av=>?_;refine⟨_,rfl,t,_,5,_,rfl,rfl,SqT.of (s7 _ _ tp),rfl,G,bd,p.body,rfl,eG.trans s7,x.body,Aw ok.few (by decide),fun lo us H8 e8 aA k8 ao=>?_⟩;have ap:lo≠L:=(gh k7 aA).symm;have ac:=Ay ao;have aG:=ok.few;refine⟨lo,rfl,⟨_,SqL.of k8⟩,?_⟩;refine ld (xs:=us.map V.ref) (NI H t lo L us (allL bs p.body) (p.ps++[p.res]++words (p.F1++p.P1)++words (p.F2++p.P2))) ⟨w0,none,s7.trans e8,k8,e8 _ _ k7,fun y=>by rw[M y];simp,by lia,rfl⟩ (fun i σ H' _ z=>by obtain⟨_,_,_,h,_⟩:=z;exact SqL.of h) ?_ ?_
 . rintro i y σ H9 s ⟨ws,z2,e9,al,m,J,ae,rfl⟩;rw[Am] at s;obtain⟨u,hu,rfl⟩:=AZ.mp s;obtain⟨d,hd,hX⟩:=Paired.nth ao hu;have aF:i<30:=by have:=(Az.mp hd).1;lia
   refine⟨_,rfl,(.inl ⟨rfl,_,SqL.of m⟩),_,rfl,u,d,xs,rfl,DeedS.same hX (eG.trans e9),ok.ds d (AE hd),ok.len,fun lw vs Ha ea ka ax aK=>?_⟩;have aD:=ea _ _ m;refine⟨L,lw,_,_,rfl,rfl,aD,ka,io (by rw[Ad,Ad];lia),?_⟩;refine⟨ws++vs,_,fun b o z=>by rw[f6 (gh z ay)];exact ea _ _ (e9 _ _ z),by rw[f6 ap];exact ea _ _ al,by rw[g8,Ax],fun y=>?_,by rw[Ai];lia,rfl⟩;rw[ww (g:=wrd) hd,Aq,<- DF,Aq,J y,ax y]
 rintro σ H9 ⟨ws,z2,e9,al,m,J,ae,rfl⟩;rw[Ad,ac,BK] at J;rw[Ad,ac] at ae;have r:∀y,y∈ws↔y∈allW bs p:=J;refine ak _ _ ?_;clear ak aC av;refine⟨_,rfl,L,rfl,⟨_,SqL.of m⟩,?_⟩;refine zy ws i8 nr (SqL.of m) (by lia) (fun y s H2 e2 Q' q'=>⟨_,rfl,y,rfl,a4z ok ((r y).mp s),fun H3 e3=>⟨_,rfl,q' H3 e3⟩⟩) (fun y H2 Q' q'=>⟨_,rfl,q'⟩) (fun D Ha hD ea kD=>?_);have hfl:=BP i8 ws;have az:ws.length<=1000:=by lia
 refine⟨D,_,rfl,SqL.of kD,?_,fun ps ss N v=>?_⟩
 . exact Ba (Gy (Aw hfl az)) (by decide)
 have ah:∀y∈ss,y∈xs:=fun y s=>by
  obtain⟨h1,h2⟩:=Du.mp ((v.mem y).mp s);exact ok.names y ((r y).mp h1) h2
 have aJ:ss.length<=20:=Aw (AV v.nodup ah) ok.len;refine⟨ps,ss,rfl,g8,(by lia),fun l zs hl e hs=>?_⟩;have aE:=(gk N _).free hl;refine q l zs _ (((e9.trans ea).trans (gk N _)).trans (gk hl _)) ((e9.trans ea).free aE) g8 (e.nodup_iff.mpr v.nodup) hs fun y=>?_;rw[e.mem_iff,v.mem y,Du,r y];exact And.comm
end K55
namespace L2
theorem a4j(ys zs:List V)(hz:zs.length=m)(hm:0<m):cutV (ys++zs) none (some (-(m:Int)))=ys:=by
 unfold cutV;rw[HT.sIx_none,De,Fh];have:HT.sIx (ys++zs).length (ys++zs).length (some (-(m:Int)))=ys.length:=by
  show (if -(m:Int)<0 then (-(m:Int)+((ys++zs).length:Int)).toNat else _)=_;rw[if_pos (by lia),Ai]
  lia
 rw[this,List.take_left]
end L2
namespace K55
open L2 Mir
abbrev a4a:KN:=top 23
abbrev a8l:KN:=top 24
theorem pick{l:List KA}(h:k<l.length):∃b,l[k]?=some b/\atI (l.map V.ref) (k:Int)=some (.ref b)/\b∈l :=
 ⟨l[k],Af h,jg (by rw[Am,Af h];rfl),CB _⟩
abbrev Pre:=List (Nat×Nat)
noncomputable def flat:Pre->List Int
 | []=>[]
 | (a,b)::p=>(a:Int)::(b:Int)::flat p
theorem mi:∀p:Pre,(flat p).length=2*p.length
 | []=>rfl
 | (a,b)::p=>by show (flat p).length+1+1=_;rw[mi p,AB];lia
theorem yi:∀p q:Pre,flat (p++q)=flat p++flat q
 | [],_=>rfl
 | (a,b)::p,q=>by show _::_::flat (p++q)=_;rw[yi p q];rfl
theorem a3c:∀{p:Pre}{z:List Int}{i a b:Nat},p[i]?=some (a,b)->(flat p++z)[2*i]?=some (a:Int)/\(flat p++z)[2*i+1]?=some (b:Int)
 | [],_,_,_,_,h=>by cases h
 | (x,y)::p,z,0,a,b,h=>by cases h;exact⟨rfl,rfl⟩
 | (x,y)::p,z,i+1,a,b,h=>a3c (p:=p) (i:=i) h
inductive Side(H:Hp)(t:KA)(s:Nat)(m:KA):Prop
 | cond (i o:KA)(c:V)(h:H t=some (.tup [.str "if",c,.ref i,.ref o]))(hs:(s=0/\m=i)\/(s=1/\m=o))
 | loop (c d:V)(h:H t=some (.tup [.str "while",c,d,.ref m]))(hs:s=0)
noncomputable def LFrom(H:Hp):KA->Pre->KA->Prop
 | l,[],l'=>l=l'
 | l,(k,s)::p,l'=>∃(ts:List KA) (t m:KA),H l=some (.lst (ts.map V.ref))/\ts[k]?=some t/\Side H t s m/\LFrom H m p l'
theorem Side.same(h:Side H t s m)(e:Same H H'):Side H' t s m:=by
 rcases h with⟨i,o,c,h,hs⟩|⟨c,d,h,hs⟩
 . exact .cond i o c (e _ _ h) hs
 . exact .loop c d (e _ _ h) hs
theorem LFrom.same(e:Same H H'):∀{p:Pre}{l a:KA},LFrom H l p a->LFrom H' l p a
 | [],_,_,h=>h
 | (k,s)::p,l,a,h=>by
  obtain⟨ts,t,m,d,b,c,f⟩:=h;exact⟨ts,t,m,e _ _ d,b,c.same e,LFrom.same e f⟩
theorem LFrom.app:∀{p q:Pre}{l m a:KA},LFrom H l p m->LFrom H m q a->LFrom H l (p++q) a
 | [],_,_,_,_,h,g=>by cases h;exact g
 | (k,s)::p,q,l,m,a,h,g=>by
  obtain⟨ts,t,x,d,b,c,e⟩:=h;exact⟨ts,t,x,d,b,c,LFrom.app e g⟩
inductive spListOf(K:Ab)(vs:List V)(H:Hp)(Q:VK)(E:XK):Prop
 | mk (bd pt l:KA)(p:Pre)(k:Int)(h0:vs=[.ref bd,.ref pt])(h1:SqT K H pt ((flat p++[k]).map V.int))(h2:LFrom H bd p l)(h3:p.length<=100)(q:∀H',Same H H'->Q (.ref l) H'):spListOf K vs H Q E
inductive spFound(K:Ab)(vs:List V)(H:Hp)(Q:VK)(E:XK):Prop
 | mk (bd pt l:KA)(p:Pre)(k:Nat)(ts:List KA)(h0:vs=[.ref bd,.ref pt])(h1:SqT K H pt ((flat p++[(k:Int)]).map V.int))(h2:LFrom H bd p l)(h3:p.length<=100)(h4:H l=some (.lst (ts.map V.ref)))(q1:∀t H',ts[k]?=some t->Same H H'->Q (.ref t) H')(q2:∀H',ts[k]?=none->Same H H'->Q .non H'):spFound K vs H Q E
theorem a6s(C:Con K mg w)(F:GF K "list_of" a4a)(GI:FC K mg w 1 "lists_in" spLists):FC K mg w 2 "list_of" (spListOf K):=by
 refine F.ok C.gf 2 ["body","path","deeds","place"] fun H vs Q E hr h nd=>?_;obtain⟨bd,pt,l,p,k,rfl,hpt,hl,hp,q⟩:=h;refine⟨_,gc (gu 2 nd (qv 0))
  (gc (jv AN rfl (a69 rfl C.range (i0 (jb (gp a74 (lx le rfl C.len CD (gj (qv 1) ad)) dn) (i0 ad)))) (jd 3 nd) (gi (gu 2 nd (sv (gr GI hr (gq (sv (qv 2) (ik (qv 1) (qv 3))) ad)) (ik (qv 1) (gp ir (qv 3) dn))))))
  (gi (gz (qv 2)))),?_⟩
 have S:(((flat p++[k]).map V.int).length:Int)=2*(p.length:Int)+1:=by rw[Ad,Ai,mi];simp
 refine⟨_,rfl,?_⟩;dsimp only[gt];refine kq fun D1 O W Y=>?_;refine⟨_,rfl,pt,_,rfl,.inr hpt,_,_,rfl,rfl,0,_,rfl,⟨by decide,by decide,by lia,by lia⟩,?_⟩;rw[show (((((flat p++[k]).map V.int).length:Int)-1-0+1) / 2).toNat=p.length by lia];refine a50 (fun i σ r=>Same H r/\∃(m:KA) (M:Option V),LFrom r m (p.drop i) l/\σ=[rQ bd,rQ pt,rQ m,M]) ⟨Same.refl _,bd,none,hl,rfl⟩ ?_ ?_
 . rintro i σ r hi ⟨y,m,M,hm,rfl⟩;obtain⟨⟨a,b⟩,D⟩:∃x,p[i]?=some x:=⟨_,Af hi⟩
   rw[Gg hi,(Az.mp D).2] at hm;obtain⟨ts,t,x,G,J,L,I⟩:=hm;obtain⟨ha,hb⟩:=a3c (z:=[k]) D;have U:(0:Int)+(i:Int)*2=((2*i:Nat):Int):=by lia
   have Z:((2*i:Nat):Int)+1=((2*i+1:Nat):Int):=by lia
   rw[U];have v:atI ((flat p++[k]).map V.int) ((2*i:Nat):Int)=some (.int (a:Int)):=jg (by rw[Am,ha];rfl);have at2:atI (ts.map V.ref) (a:Int)=some (.ref t):=jg (by rw[Am,J];rfl);have u:atI ((flat p++[k]).map V.int) (((2*i:Nat):Int)+1)=some (.int (b:Int)):=by rw[Z];exact jg (by rw[Am,hb];rfl)
   have e:=y.seqT hpt;have fin:∀{nl:KA} {us:List V},r nl=none->atI us (b:Int)=some (.ref x)->Same r (upd r nl (.lst us))/\LFrom (upd r nl (.lst us)) x (p.drop (i+1)) l:=fun j _=>⟨gk j _,I.same (gk j _)⟩
   rcases L with⟨R,o,c,h,hs⟩|⟨c,d,h,hs⟩
   . have n:atI [V.ref R,V.ref o] (b:Int)=some (.ref x):=by rcases hs with⟨rfl,rfl⟩|⟨rfl,rfl⟩<;>rfl
     refine⟨_,rfl,_,rfl,_,rfl,pt,_,_,_,rfl,rfl,e,v,m,_,_,_,rfl,rfl,SqL.of G,at2,.cond t R o c rfl h fun nl j=>?_⟩;obtain⟨s,g⟩:=fin j n;exact⟨_,rfl,_,rfl,_,_,rfl,rfl,pt,_,_,_,rfl,rfl,s.seqT e,u,nl,_,_,_,rfl,rfl,SqL.of g8,n,y.trans s,x,_,g,rfl⟩
   . have n:atI [V.ref x] (b:Int)=some (.ref x):=by subst hs;rfl
     refine⟨_,rfl,_,rfl,_,rfl,pt,_,_,_,rfl,rfl,e,v,m,_,_,_,rfl,rfl,SqL.of G,at2,.loop t x c d rfl h fun nl j=>?_⟩;obtain⟨s,g⟩:=fin j n;exact⟨_,rfl,_,rfl,_,_,rfl,rfl,pt,_,_,_,rfl,rfl,s.seqT e,u,nl,_,_,_,rfl,rfl,SqL.of g8,n,y.trans s,x,_,g,rfl⟩
 rintro σ r ⟨y,m,M,hm,rfl⟩;rw[Jx] at hm;cases hm;exact O _ _ ⟨_,rfl,q r y⟩
theorem a93(C:Con K mg w)(F:GF K "found_at" a8l)(v:FC K mg w 2 "list_of" (spListOf K)):FC K mg w 3 "found_at" (spFound K):=by
 refine F.ok C.gf 2 ["body","path","deeds"] fun H vs Q E hr h nd=>?_;obtain⟨bd,pt,l,p,k,ts,rfl,hpt,hl,hp,e,z,y⟩:=h;refine⟨_,gc (gu 2 nd (gr v hr (gj (qv 0) (gj (qv 1) ad))))
  (gi (gz (ng (i6 qo (ik (qv 1) (jx jm dn)) (lx le rfl C.len CD (gj (qv 2) ad))) (sv (qv 2) (ik (qv 1) (jx jm dn))) qd))),?_⟩
 refine⟨_,rfl,_,rfl,bd,pt,l,p,k,rfl,hpt,hl,hp,fun q d=>?_⟩;have a:=d.seqT hpt;rw[Ax] at a;have b:=d _ _ e;refine⟨_,rfl,_,rfl,pt,_,_,_,rfl,rfl,a,jh,_,rfl,l,_,rfl,.inl (SqL.of b),_,_,rfl,rfl,_,rfl,iteB (fun c=>?_) (fun c=>?_)⟩
 . have n:(k:Int)<((ts.map V.ref).length:Int):=of_decide_eq_true c;have g:k<ts.length:=by rw[Ad] at n;lia
   obtain⟨t,j,m,_⟩:=pick g;exact⟨_,rfl,_,rfl,_,rfl,pt,_,_,_,rfl,rfl,a,jh,l,_,_,_,rfl,rfl,SqL.of b,m,z t q j d⟩
 . have n:¬ (k:Int)<((ts.map V.ref).length:Int):=of_decide_eq_false c;have g:ts.length<=k:=by rw[Ad] at n;lia
   exact y q (Bx g) d
end K55
namespace L2
theorem nk(xs:List V)(rs:List α)(R:KA->Hp->V->β->Prop)(f:α->β)(l:JSeq J T xs)(h0:T d)(hz:xs.length<=1000)(hl:rs.length=xs.length)(w:∀D H H' y r,R D H y r->jt D H H'->R D H' y r)(L:∀(D:KA),d D=none->∀(i:Nat) (x:V) (r:α),xs[i]?=some x->rs[i]?=some r->∀j,Same d j->j D≠none->∀I:VK,(∀y C,Same j C->R D C y (f r)->I y C)->P (some x::j6 σ M) j I)(O:∀D H' ys,d D=none->Same d H'->H' D=some (.lst ys)->KI (fun y r=>R D H' y r) ys (rs.map f)->Q (.ref D) H'):rf J d σ M tYes P Q:=by
 intro D v;have put:∀H ys,Same d H->Same d (upd H D (.lst ys)):=fun H ys e b u q=>by rw[f6 (gh q v)];exact e b u q
 refine⟨fun i m H=>i<=xs.length/\m=xs.length-i/\Same d H/\∃ys:List V,H D=some (.lst ys)/\KI (fun y r=>R D H y r) ys ((rs.take i).map f),⟨xs.length,AH _,rfl,put _ _ (Same.refl _),[],g8,by simpa using Paired.nil⟩,?_⟩;rintro i m H ⟨hi,rfl,e,ys,A,hp⟩;have E:=l.stay _ _ h0 e;by_cases c:i<xs.length
 . refine .inr ⟨l.go i H E c,fun x H' p=>?_⟩;obtain⟨rfl,N⟩:=l.yld i H x H' c E p;have F:i<rs.length:=by lia
   have hr:rs[i]?=some rs[i]:=Af F;have ht:rs.take (i+1)=rs.take i++[rs[i]]:=by rw[BY,hr];rfl
   have h:ys.length=i:=by
    have S:=Ay hp;rw[Ad,AQ] at S
    lia
   dsimp only[tYes];rw[if_pos rfl];refine L D v i x rs[i] N hr _ e (by rw[A];simp) _ fun y G s n=>?_;have g:jt D G (upd G D (.lst (ys++[y]))):=fun b u q hn=>by rw[f6 hn];exact q
   refine⟨ys,s _ _ A,by rw[h];exact AK c (Aw hz (by decide)),xs.length-(i+1),by lia,c,rfl,put _ _ (e.trans s),ys++[y],g8,?_⟩;rw[ht,Ax];exact Paired.snocP (Paired.mapP hp fun a r z=>w _ _ _ _ _ (w _ _ _ _ _ z (s.x D)) g) (w _ _ _ _ _ n g)
 . have o:i=xs.length:=by lia
   subst o;refine .inl ⟨l.stop _ H E (Aj _),?_⟩;rw[<- hl,BK] at hp;exact O D H ys v e A hp
end L2
namespace K55
open L2 Mir
theorem Dn.int:Dn n (.int i):=⟨by simp only[DO],by simp only[Fi];exact AH _⟩
noncomputable def a14(ns:List Int):PyData:=.tuple (ns.map PyData.int)
theorem a2h:∀ns:List Int,DpAll K H (ns.map V.int) (ns.map PyData.int)
 | []=>.nil
 | n::ns=>.cons (.int n) (a2h ns)
theorem a4m(h:SqT K H t (ns.map V.int)):Dp K H (.ref t) (a14 ns):=.tup h (a2h ns)
theorem ints_dn:Dn 1 (a14 ns):=by grind [a14,Dn.tup,Dn.int]
theorem m9:∀{ys:List V}{rs:List α},KI (fun y r=>∃b,y=V.ref b/\R b r) ys rs->∃bs:List KA,ys=bs.map V.ref/\KI R bs rs
 | _,_,.nil=>⟨[],rfl,.nil⟩
 | _,_,.cons h t=>by
  obtain⟨b,rfl,hb⟩:=h;obtain⟨bs,rfl,hp⟩:=m9 t;exact⟨b::bs,rfl,.cons hb hp⟩
noncomputable def byK(ns:List Str)(ts:List KA):List (Str×V):=(ns.zip ts).map fun x=>(x.1,V.ref x.2)
theorem a26:∀{us:List KA}{zs:List (Str×KA)},KI (fun b (x:Str×KA)=>b≠D/\H b=some (.tup [.str x.1,.ref x.2])) us zs->KI (fun t (kv:Str×V)=>SqT K H t [.str kv.1,kv.2]) us (zs.map fun x=>(x.1,V.ref x.2))
 | _,_,.nil=>.nil
 | _,_,.cons h r=>.cons (SqT.of h.2) (a26 r)
theorem scByNames:FnScope ["program"] ["program"] (iw yl):=⟨rfl,rfl,rfl,by decide,rfl,by decide,by decide⟩
end K55
namespace L2
open Classical in
noncomputable def rm(X:KA->Prop)(H:Hp):Hp:=fun c=>if X c then none else H c
theorem ib(h:¬ X c):rm X H c=H c:=by unfold rm;rw[if_neg h]
theorem j4(h:rm X H c=some o):¬ X c/\H c=some o:=by grind [rm]
theorem rm_back:Same (rm X H) H:=fun _ _ h=>(j4 h).2
theorem ip(e:Same H H'):Same (rm X H) (rm X H'):=by grind [Same,rm]
theorem xx(e:jt D H H')(d:X D):Same (rm X H) (rm X H'):=fun b o h=>by
 obtain⟨a,c⟩:=j4 h;rw[ib a];exact e _ _ c (fun z=>a (by rw[z];exact d))
theorem zc(h:∀c,X c->d c):Same (rm d H) (rm X H):=by grind [Same,rm]
theorem rk(h:X a):rm X (upd H a o)=rm X H:=by grind [rm,upd]
end L2
namespace K55
open L2 Mir
abbrev a2v:KN:=top 15
abbrev a0v:KN:=top 16
abbrev a4h:KN:=top 25
inductive spCopy(K:Ab)(bs:List Nat)(vs:List V)(H:Hp)(Q:VK)(E:XK):Prop
 | mk (X Y:KA->Prop)(l:KA)(ds:List Deed)(h0:vs=[.ref l])(hX:∀c,X c->H c≠none)(hY:∀c,Y c->X c\/∃us,H c=some (.lst us))(h1:ListX K (rm X H) bs l ds)(q:∀l' H',Same H H'->ListX K (rm Y H') bs l' ds->Q (.ref l') H'):spCopy K bs vs H Q E
inductive spOwn(K:Ab)(bs:List Nat)(vs:List V)(H:Hp)(Q:VK)(E:XK):Prop
 | mk (X Y:KA->Prop)(t:KA)(d:Deed)(h0:vs=[.ref t])(hX:∀c,X c->H c≠none)(hY:∀c,Y c->X c\/∃us,H c=some (.lst us))(h1:DeedX K (rm X H) (ListX K (rm X H) bs) t d)(q:∀t' H',Same H H'->DeedX K (rm Y H') (ListX K (rm Y H') bs) t' d->Q (.ref t') H'):spOwn K bs vs H Q E
theorem re(d:∀c,Y c->X c\/∃us,H c=some (.lst us))(h:(rm X H) t=some o)(f:∀us,o≠.lst us):(rm Y H) t=some o:=by grind [rm]
theorem afn(a:∀c,Y c->X c\/∃us,H c=some (.lst us))(h:PlAt (rm X H) t p):PlAt (rm Y H) t p:=by
 cases p with
 | row r=>exact re a h (fun _ z=>by cases z)
 | call x c vs =>
  obtain⟨v,d,b⟩:=h;exact⟨v,re a d (fun _ z=>by cases z),re a b (fun _ z=>by cases z)⟩
theorem a8t(a:∀c,Y c->X c\/∃us,H c=some (.lst us))(h:RowAt K (rm X H) t r):RowAt K (rm Y H) t r:=by
 rcases h with (h|⟨o,h⟩)|h
 . exact .inl (.inl (re a h (fun _ z=>by cases z)))
 . exact .inl (.inr ⟨o,re a h (fun _ z=>by cases z)⟩)
 . exact .inr h
theorem zv{X Y:KA->Prop}(a:∀c,Y c->X c\/∃us,H c=some (.lst us))(e:Same H H'):∀c,Y c->X c\/∃us,H' c=some (.lst us):=fun c z=>(a c z).imp id fun⟨us,h⟩=>⟨us,e _ _ h⟩
inductive spBehind(K:Ab)(vs:List V)(H:Hp)(Q:VK)(E:XK):Prop
 | mk (t:KA)(ns:List Int)(k:Int)(h0:vs=[.ref t])(h:SqT K H t ((ns++[k]).map V.int))(hn:ns.length<=100)(q:∀t' H',Same H H'->SqT K H' t' ((ns++[k+1]).map V.int)->Q (.ref t') H'):spBehind K vs H Q E
theorem a8p(C:Con K mg w)(F:GF K "behind_deed" a4h):FC K mg w 1 "behind_deed" (spBehind K):=by
 refine F.ok C.gf 1 ["path"] fun H vs Q E hr h nd=>?_;obtain⟨t,ns,k,rfl,h,hn,q⟩:=h;refine⟨_,(gi (gz (gp a22 (ja oj (qv 0) jp (j8 (jx jm dn))) (j5 (jb (gp ir (ik (qv 0) (jx jm dn)) dn) ad))))),?_⟩;rw[Ax] at h;refine⟨_,rfl,_,rfl,_,rfl,t,_,rfl,h,fun p1 l c d=>?_⟩;have hc:cutV (ns.map V.int++[k].map V.int) none (some (-1))=ns.map V.int:=a4j _ _ (m:=1) rfl (by decide);rw[show cutV (ns.map V.int++[k].map V.int) none (some (-(1:Int)))=ns.map V.int from hc] at d;refine⟨_,rfl,_,rfl,t,_,_,_,rfl,rfl,c.seqT h,jh,_,_,rfl,rfl,(szLn 1),fun p2 a=>?_⟩;have b:=gk a (.tup [.int (k+1)]);refine⟨p1,p2,_,_,rfl,rfl,b.seqT d,SqT.of g8,io (by rw[Ad];show _+1<=1000;lia),fun p3 j i e=>?_⟩;exact q p3 j ((c.trans b).trans i) (by rw[Ax];exact e)
theorem aam:FnOk P w K mg base CX0 1 f fd ["deeds"] (spCopy K []) :=
 ⟨fun vs H Q E h=>by obtain⟨X,Y,l,ds,_,_,_,a,_⟩:=h;exact a.elim,fun A outer s H args us vs Q E _ _ _ _ h=>by obtain⟨X,Y,l,ds,_,_,_,a,_⟩:=h;exact a.elim⟩
theorem r0(hb:b<=900)(C:Con K mg w)(F:GF K "own_deeds" a0v)(S:FC K mg w (n+1) "own_deed" (spOwn K bs)):FC K mg w (n+1+1) "own_deeds" (spCopy K (b::bs)):=by
 refine F.ok C.gf 1 ["deeds"] fun H vs Q E hr h nd=>?_;obtain⟨X,Y,l,ds,rfl,R,O,⟨ts,hl,hp,p⟩,q⟩:=h;refine⟨_,(gi (gz (qw (me (qv 0)) (fun _ _ _ _=>mn) (fun _ _ _ _=>(gr S hr (gj (qv 0) ad)))))),?_⟩;have v:=Ay hp;refine⟨_,rfl,l,rfl,⟨_,SqL.of (rm_back _ _ hl)⟩,?_⟩;refine nk (ts.map V.ref) ds (fun D G y d=>∃t',y=V.ref t'/\DeedX K (rm (fun c=>Y c\/c=D) G) (ListX K (rm (fun c=>Y c\/c=D) G) bs) t' d) id nr (SqL.of (rm_back _ _ hl)) (by rw[Ad];lia) (by rw[Ad,v]) (fun D G U y d z e=>?_) (fun D I j x d N hd s r i Q' W=>?_) (fun D s ys I r i hpt=>?_)
 . obtain⟨t',rfl,h⟩:=z;have g:Same (rm (fun c=>Y c\/c=D) G) (rm (fun c=>Y c\/c=D) U):=xx e (.inr rfl);exact⟨t',rfl,h.same g fun _ _ y=>y.same g⟩
 . rw[Am] at N;obtain⟨t,ht,rfl⟩:=AZ.mp N;obtain⟨d',m,L⟩:=Paired.nth hp ht;rw[hd] at m;cases m;have g:Same (rm X H) (rm (fun c=>X c\/c=D) s):=fun b o h=>by
    obtain⟨h1,M⟩:=j4 h;rw[ib (fun z=>z.elim h1 (gh M I))];exact r _ _ M
   refine⟨_,rfl,(fun c=>X c\/c=D),(fun c=>Y c\/c=D),t,d,rfl,fun c z y=>?_,fun c z=>z.elim (fun z=>(zv O r c z).imp .inl id) (fun z=>.inl (.inr z)),L.same g fun _ _ y=>y.same g,fun t' H3 e3 h3=>W (.ref t') H3 e3 ⟨t',rfl,h3⟩⟩;rcases z with z|z
   . cases qc:H c with
     | none=>exact R c z qc
     | some o=>rw[r _ _ qc] at y;cases y
   . rw[z] at y;exact i y
 rw[CZ] at hpt;obtain⟨us,rfl,u⟩:=m9 hpt;have a:Same (rm (fun c=>Y c\/c=D) s) (rm Y s):=zc fun c z=>.inl z;exact q D s r ⟨us,by rw[ib (fun z=>(O D z).elim (fun z=>R D z I) fun⟨us,y⟩=>by rw[I] at y;cases y)];exact i,Paired.mapP u fun _ _ z=>z.same a fun _ _ y=>y.same a,by rw[Ay u,<- v];exact p⟩
theorem tw(C:Con K mg w)(F:GF K "own_deed" a2v)(GS:FC K mg w (n+1) "own_deeds" (spCopy K bs)):FC K mg w (n+1+1) "own_deed" (spOwn K bs):=by
 refine F.ok C.gf 1 ["deed"] fun H vs Q E hr h nd=>?_;obtain⟨X,Y,t,d,rfl,hX,u,hd,q⟩:=h;have m:∀{H':Hp},Same H H'->∀c,X c->H' c≠none:=fun {H'} e' c z y=>by
  cases qc:H c with
  | none=>exact hX c z qc
  | some o=>rw[e' _ _ qc] at y;cases y
 refine⟨_,gc (ij (i6 ig (ik (qv 0) dn) i7) (gi (gz (gp wf (ja zb (qv 0) jp (j8 dn)) (j5 (gw (gr GS hr (gq (ik (qv 0) dn) ad)) (gw (gr GS hr (gq (ik (qv 0) dn) ad)) ad)))))) iq)
  (gc (ij (i6 ig (ik (qv 0) dn) i7) (gi (gz (gp wf (ja zb (qv 0) jp (j8 dn)) (j5 (og (gw (ii jl rfl C.list Bt (gq (ik (ik (qv 0) dn) dn) ad)) (gw (ii jl rfl C.list Bt (gq (ik (ik (qv 0) dn) dn) ad)) ad)) (gw (gr GS hr (gq (ik (qv 0) dn) ad)) ad)))))) iq)
  (gi (gz (qv 0)))),?_⟩
 have nw:∀{H':Hp} {p:KA},Same H H'->H' p=none->¬ Y p:=fun {H' p} e' hp z=>(u p z).elim (fun z=>m e' _ z hp) fun⟨us,y⟩=>by rw[e' _ _ y] at hp;cases hp
 cases hd with
 | plain p h1 h2 =>
  obtain⟨w,vs,hw,n1,n2⟩:=uh h1 h2;have aa:=rm_back _ _ hw;refine⟨_,rfl,t,_,0,_,rfl,rfl,SqT.of aa,at0,rfl,_,rfl,iteS n1 ?_⟩;refine⟨_,rfl,t,_,0,_,rfl,rfl,SqT.of aa,at0,rfl,_,rfl,iteS n2 ?_⟩;exact⟨_,rfl,q t H (Same.refl _) (.plain p (afn u h1) h2)⟩
 | cond c i' o r a b' h hc okr hi' ho =>
  have h':=rm_back _ _ h;refine⟨_,rfl,t,_,0,_,rfl,rfl,SqT.of h',rfl,rfl,_,rfl,iteT ?_⟩;refine⟨_,rfl,_,rfl,t,_,rfl,SqT.of h',(fun z=>absurd z.2 (show ¬ (2:Nat)=4 by decide)),fun p1 I=>?_⟩;have b:=gk I (.tup [.str "if",.ref c]);have k1:(upd H p1 (.tup [.str "if",.ref c])) p1=some (.tup [.str "if",.ref c]):=g8;change tTup _ _ (upd H p1 (.tup [.str "if",.ref c])) _;generalize upd H p1 (.tup [.str "if",.ref c])=H1 at b k1 |-;refine⟨_,rfl,t,_,2,_,rfl,rfl,SqT.of (b _ _ h'),rfl,X,Y,i',a,rfl,m b,zv u b,hi'.same (ip b),fun l1 H3 O ah=>?_⟩;have e3:=b.trans O;refine⟨_,rfl,t,_,3,_,rfl,rfl,SqT.of (e3 _ _ h'),rfl,X,Y,o,b',rfl,m e3,zv u e3,ho.same (ip e3),fun l2 H4 D ai=>?_⟩;have e4:=e3.trans D;refine⟨(szLn 2),fun p2 L=>?_⟩;obtain⟨H5,z0,s5,k5⟩:=gs L (.tup [.ref l1,.ref l2]);rw[z0];have e5:=e4.trans s5;refine⟨p1,p2,_,_,rfl,rfl,SqT.of (s5 _ _ (D _ _ (O _ _ k1))),SqT.of k5,(by simp),(szLn 4),(fun z=>by cases z),fun _ G i=>?_⟩;have s6:=gk i (.tup [.str "if",.ref c,.ref l1,.ref l2]);have k6:(upd H5 G (.tup [.str "if",.ref c,.ref l1,.ref l2])) G=some (.tup [.str "if",.ref c,.ref l1,.ref l2]):=g8;have nn:=nw e5 i;have U:=e5.trans s6;exact q G _ U (.cond c l1 l2 r a b' (by rw[ib nn];exact k6) (ip U _ _ (re u hc fun _ z=>by cases z)) okr (ah.same (ip ((D.trans s5).trans s6))) (ai.same (ip (s5.trans s6))))
 | loop c td i' fa pa r F' P' a h hc okr htd hF hP okF okP lF lP hi' =>
  have h':=rm_back _ _ h;have v:=rm_back _ _ htd;refine⟨_,rfl,t,_,0,_,rfl,rfl,SqT.of h',rfl,rfl,_,rfl,iteU ?_⟩;refine⟨_,rfl,t,_,0,_,rfl,rfl,SqT.of h',rfl,rfl,_,rfl,iteT ?_⟩;obtain⟨e,ab,ae⟩:=hF;obtain⟨j,ag,al⟩:=hP;refine⟨_,rfl,_,rfl,t,_,rfl,SqT.of h',(fun z=>absurd z.2 (show ¬ (2:Nat)=4 by decide)),fun p1 I=>?_⟩;have b:=gk I (.tup [.str "while",.ref c]);have k1:(upd H p1 (.tup [.str "while",.ref c])) p1=some (.tup [.str "while",.ref c]):=g8;change tTup _ _ (upd H p1 (.tup [.str "while",.ref c])) _;generalize upd H p1 (.tup [.str "while",.ref c])=H1 at b k1 |-;refine⟨_,rfl,t,_,2,_,rfl,rfl,SqT.of (b _ _ h'),rfl,td,_,0,_,rfl,rfl,SqT.of (b _ _ v),rfl,fa,_,rfl,.inl (SqL.of (b _ _ (rm_back _ _ ab))),fun n1 S=>?_⟩;have M:=gk S (.lst (e.map V.ref));have k2:(upd H1 n1 (.lst (e.map V.ref))) n1=some (.lst (e.map V.ref)):=g8;have af:=nw b S;generalize upd H1 n1 (.lst (e.map V.ref))=H2 at M k2 |-;have R:=b.trans M;refine⟨_,rfl,t,_,2,_,rfl,rfl,SqT.of (R _ _ h'),rfl,td,_,1,_,rfl,rfl,SqT.of (R _ _ v),rfl,pa,_,rfl,.inl (SqL.of (R _ _ (rm_back _ _ ag))),fun n2 W=>?_⟩;have J:=gk W (.lst (j.map V.ref));have k3:(upd H2 n2 (.lst (j.map V.ref))) n2=some (.lst (j.map V.ref)):=g8;have aj:=nw R W;generalize upd H2 n2 (.lst (j.map V.ref))=H3 at J k3 |-;have s3:=R.trans J;refine⟨(szLn 2),fun g Z=>?_⟩;have N:=gk Z (.tup [.ref n1,.ref n2]);have k4:(upd H3 g (.tup [.ref n1,.ref n2])) g=some (.tup [.ref n1,.ref n2]):=g8;have ak:=nw s3 Z;generalize upd H3 g (.tup [.ref n1,.ref n2])=H4 at N k4 |-;have s4:=s3.trans N;refine⟨_,rfl,t,_,3,_,rfl,rfl,SqT.of (s4 _ _ h'),rfl,X,Y,i',a,rfl,m s4,zv u s4,hi'.same (ip s4),fun l1 H5 T ac=>?_⟩;have e5:=s4.trans T;refine⟨(szLn 2),fun p2 L=>?_⟩;obtain⟨H6,z1,s,k6⟩:=gs L (.tup [.ref g,.ref l1]);rw[z1];have U:=e5.trans s;have f5:=T.trans s;have f4:=N.trans f5;have f3:=J.trans f4;have f2:=M.trans f3;refine⟨p1,p2,_,_,rfl,rfl,SqT.of (f2 _ _ k1),SqT.of k6,(by simp),(szLn 4),(fun z=>by cases z),fun _ G i=>?_⟩;have s7:=gk i (.tup [.str "while",.ref c,.ref g,.ref l1]);have k7:(upd H6 G (.tup [.str "while",.ref c,.ref g,.ref l1])) G=some (.tup [.str "while",.ref c,.ref g,.ref l1]):=g8;have nn:=nw U i;have e7:=U.trans s7;exact q G _ e7 (.loop c g l1 n1 n2 r F' P' a (by rw[ib nn];exact k7) (ip e7 _ _ (re u hc fun _ z=>by cases z)) okr (by rw[ib ak];exact s7 _ _ (f5 _ _ k4)) ⟨e,by rw[ib af];exact s7 _ _ (f3 _ _ k2),Paired.mapP ae fun _ _ z=>RowAt.same (a8t u z) (ip e7)⟩ ⟨j,by rw[ib aj];exact s7 _ _ (f4 _ _ k3),Paired.mapP al fun _ _ z=>RowAt.same (a8t u z) (ip e7)⟩ okF okP lF lP (ac.same (ip (s.trans s7))))
theorem om{H:Hp}{bs:List KA}(b:H l=some (.lst (as.map V.ref)))(a:H l=some (.lst (bs.map V.ref))):as=bs:=by
 rw[b] at a;exact (List.map_inj_right (f:=V.ref) (fun x y z=>by injection z)).mp (HO.lst.inj (Au a))
abbrev a1g:KN:=top 26
inductive LEnd(H:Hp)(bd:KA):Pre->KA->Pre×Nat->Option KA->Prop
 | top (ts:List KA)(h:H bd=some (.lst (ts.map V.ref))):LEnd H bd [] bd ([],ts.length) none
 | last (p:Pre)(l:KA)(ts:List KA)(k s:Nat)(t i o m:KA)(c:V)(due:Pre×Nat)(e:Option KA)(hl:LEnd H bd p l due e)(h:H l=some (.lst (ts.map V.ref)))(hk:ts[k]?=some t)(ht:H t=some (.tup [.str "if",c,.ref i,.ref o]))(hs:(s=0/\m=i)\/(s=1/\m=o))(hn:k+1=ts.length):LEnd H bd (p++[(k,s)]) m due e
 | next (p:Pre)(l:KA)(ts:List KA)(k s:Nat)(t i o m t':KA)(c:V)(due:Pre×Nat)(e:Option KA)(hl:LEnd H bd p l due e)(h:H l=some (.lst (ts.map V.ref)))(hk:ts[k]?=some t)(ht:H t=some (.tup [.str "if",c,.ref i,.ref o]))(hs:(s=0/\m=i)\/(s=1/\m=o))(hn:ts[k+1]?=some t'):LEnd H bd (p++[(k,s)]) m (p,k+1) (some t')
 | loop (p:Pre)(l:KA)(ts:List KA)(k:Nat)(t m:KA)(c d:V)(due:Pre×Nat)(e:Option KA)(hl:LEnd H bd p l due e)(h:H l=some (.lst (ts.map V.ref)))(hk:ts[k]?=some t)(ht:H t=some (.tup [.str "while",c,d,.ref m])):LEnd H bd (p++[(k,0)]) m (p,k) (some t)
theorem LEnd.from(h:LEnd H bd p l due e):LFrom H bd p l:=by
 induction h with
 | top ts h=>rfl
 | last p l ts k s t i o m c due e hl h hk ht hs hn ih=>exact ih.app ⟨ts,t,m,h,hk,.cond i o c ht hs,rfl⟩
 | next p l ts k s t i o m t' c due e hl h hk ht hs hn ih=>exact ih.app ⟨ts,t,m,h,hk,.cond i o c ht hs,rfl⟩
 | loop p l ts k t m c d due e hl h hk ht ih=>exact ih.app ⟨ts,t,m,h,hk,.loop c d ht rfl,rfl⟩
theorem LEnd.same(h:LEnd H bd p l due e)(g:Same H H'):LEnd H' bd p l due e:=by
 induction h with
 | top ts h=>exact .top ts (g _ _ h)
 | last p l ts k s t i o m c due e hl h hk ht hs hn ih=>exact .last p l ts k s t i o m c due e ih (g _ _ h) hk (g _ _ ht) hs hn
 | next p l ts k s t i o m t' c due e hl h hk ht hs hn ih=>exact .next p l ts k s t i o m t' c due e ih (g _ _ h) hk (g _ _ ht) hs hn
 | loop p l ts k t m c d due e hl h hk ht ih=>exact .loop p l ts k t m c d due e ih (g _ _ h) hk (g _ _ ht)
inductive Stands(H:Hp)(bd:KA)(p:Pre)(k:Nat)(due:Pre×Nat)(e:Option KA):Prop
 | own (l t:KA)(ts:List KA)(hl:LFrom H bd p l)(h:H l=some (.lst (ts.map V.ref)))(hk:ts[k]?=some t)(hd:due=(p,k))(he:e=some t)
 | fin (l:KA)(ts:List KA)(hl:LEnd H bd p l due e)(h:H l=some (.lst (ts.map V.ref)))(hk:k=ts.length)
theorem Stands.same(h:Stands H bd p k due e)(g:Same H H'):Stands H' bd p k due e:=by
 rcases h with⟨l,t,ts,hl,h,a,hd,b⟩|⟨l,ts,hl,h,a⟩
 . exact .own l t ts (hl.same g) (g _ _ h) a hd b
 . exact .fin l ts (hl.same g) (g _ _ h) a
theorem LEnd.zero(h:LEnd H bd p l due e)(hp:p=[]):∃ts:List KA,l=bd/\H bd=some (.lst (ts.map V.ref))/\due=([],ts.length)/\e=none:=by
 cases h with
 | top ts h=>exact⟨ts,rfl,h,rfl,rfl⟩
 | last p l ts k s t i o m c due e hl h hk ht hs hn=>simp at hp
 | next p l ts k s t i o m t' c due e hl h hk ht hs hn=>simp at hp
 | loop p l ts k t m c d due e hl h hk ht=>simp at hp
theorem LEnd.up(h:LEnd H bd p l due e)(hp:p≠[]):∃(b:Pre) (a s':Nat) (f t:KA) (ts:List KA),p=b++[(a,s')]/\LFrom H bd b f/\H f=some (.lst (ts.map V.ref))/\ts[a]?=some t/\((∃c i o,H t=some (.tup [.str "if",c,.ref i,.ref o])/\Stands H bd b (a+1) due e)\/∃c d i,H t=some (.tup [.str "while",c,d,.ref i])/\Stands H bd b a due e):=by
 cases h with
 | top ts h=>exact absurd rfl hp
 | last p l ts k s t i o m c due e hl h hk ht hs hn=>exact⟨p,k,s,_,t,ts,rfl,hl.from,h,hk,.inl ⟨c,i,o,ht,.fin _ ts hl h hn⟩⟩
 | next p l ts k s t i o m t' c due e hl h hk ht hs hn=>exact⟨p,k,s,_,t,ts,rfl,hl.from,h,hk,.inl ⟨c,i,o,ht,.own _ t' ts hl.from h hn rfl rfl⟩⟩
 | loop p l ts k t m c d due e hl h hk ht=>exact⟨p,k,0,_,t,ts,rfl,hl.from,h,hk,.inr ⟨c,d,_,ht,.own _ t ts hl.from h hk rfl rfl⟩⟩
inductive spSettled(K:Ab)(vs:List V)(H:Hp)(Q:VK)(E:XK):Prop
 | mk (bd pt:KA)(p:Pre)(k:Nat)(due:Pre×Nat)(e:Option KA)(h0:vs=[.ref bd,.ref pt])(h1:SqT K H pt ((flat p++[(k:Int)]).map V.int))(h2:Stands H bd p k due e)(h3:p.length<=40)(q:∀pt' H',Same H H'->SqT K H' pt' ((flat due.1++[(due.2:Int)]).map V.int)->Q (.ref pt') H'):spSettled K vs H Q E
inductive SW(K:Ab)(H:Hp)(bd:KA)(due:Pre×Nat)(e:Option KA)(m:Nat)(σ:St)(H1:Hp):Prop
 | mk (pt:KA)(p:Pre)(k:Nat)(e1:Same H H1)(h1:SqT K H1 pt ((flat p++[(k:Int)]).map V.int))(h2:Stands H1 bd p k due e)(hm:p.length=m)(h3:m<=40)(hσ:σ=[some (.ref bd),some (.ref pt)])
theorem a4q(C:Con K mg w)(F:GF K "settled" a1g)(GL:FC K mg w 2 "list_of" (spListOf K))(GF:FC K mg w 3 "found_at" (spFound K))(GB:FC K mg w 1 "behind_deed" (spBehind K)):FC K mg w 4 "settled" (spSettled K):=by
 refine F.ok C.gf 2 ["body","path"] fun H vs Q E hr h nd=>?_;obtain⟨bd,pt,p,k,due,e,rfl,hpt,ac,hp,q⟩:=h;have aa:=hr.mono (j:=1) (by lia);have ab:=hr.mono (j:=2) (by lia);refine⟨_,gc (ou AN (QW.qt (q3 (i6 xj (lx le rfl C.len CD (gj (qv 1) ad)) dn) (ny (i6 ig (ik (qv 1) (jx jm dn)) (lx le rfl C.len CD (gw (gr GL ab (gj (qv 0) (gj (qv 1) ad))) ad)))))) (gc (gu 1 nd (ja oj (qv 1) jp (j8 (jx jm dn))))
  (gi (ij (i6 ig (ik (gr GF hr (gj (qv 0) (gj (qv 1) ad))) dn) i7) (gi (gu 1 nd (gr GB aa (gj (qv 1) ad)))) iq))))
  (gi (gz (qv 1))),?_⟩
 refine ke (a:=ui _ _) fun D1 ag ai aj=>?_;refine⟨SW K H bd due e,⟨p.length,pt,p,k,Same.refl _,hpt,ac,rfl,hp,rfl⟩,?_⟩;rintro m σ G ⟨pt,p,k,e1,S,h2,rfl,h3,rfl⟩;have T:(((flat p++[(k:Int)]).map V.int).length:Int)=2*(p.length:Int)+1:=by rw[Ad,Ai,mi];simp
 have out:∀I,Same G I->due=(p,k)->D1.nx [some (.ref bd),some (.ref pt)] I:=fun I y hd=>by
  refine ag _ _ ⟨_,rfl,?_⟩;subst hd;exact q pt I (e1.trans y) (y.seqT S)
 refine⟨_,rfl,pt,_,rfl,.inr S,_,_,rfl,rfl,_,rfl,iteB (fun X=>?_) (fun X=>?_)⟩
 . have D:(1:Int)<(((flat p++[(k:Int)]).map V.int).length:Int):=of_decide_eq_true X;have u:p≠[]:=fun z=>by rw[T,z] at D;exact absurd D (by decide)
   obtain⟨l,ts,hl,Y,r⟩:∃(l:KA) (ts:List KA),LFrom G bd p l/\G l=some (.lst (ts.map V.ref))/\((k<ts.length/\due=(p,k))\/(k=ts.length/\LEnd G bd p l due e)):=by
    rcases h2 with⟨l,t,ts,hl,h,r,hd,he⟩|⟨l,ts,hl,h,r⟩
    . exact⟨l,ts,hl,h,.inl ⟨(Az.mp r).1,hd⟩⟩
    . exact⟨l,ts,hl.from,h,.inr ⟨r,hl⟩⟩
   have M:=S;rw[Ax] at M;refine⟨_,rfl,_,rfl,pt,_,_,_,rfl,rfl,M,jh,_,rfl,_,rfl,bd,pt,l,p,k,rfl,S,hl,(by lia),fun I y=>⟨l,_,rfl,.inl (SqL.of (y _ _ Y)),rfl,_,rfl,iteB (fun c2=>?_) (fun c2=>?_)⟩⟩
   . have U:k=ts.length:=by
      have:=V.int.inj (of_decide_eq_true c2);rw[Ad] at this;lia
     have hE:LEnd G bd p l due e:=by
      rcases r with⟨z,_⟩|⟨_,z⟩
      . lia
      . exact z
     obtain⟨g,n,s',l',t,N,rfl,af,R,J,ae⟩:=hE.up u;refine⟨fun σ' H'=>∃m',m'<(g++[(n,s')]).length/\SW K H bd due e m' σ' H',fun _ _ z=>z,?_⟩;have ak:(g++[(n,s')]).length=g.length+1:=by rw[Ai];rfl
     have L:cutV ((flat (g++[(n,s')])++[(k:Int)]).map V.int) none (some (-(2:Int)))=(flat g++[(n:Int)]).map V.int:=by
      rw[yi,show (flat g++flat [(n,s')]++[(k:Int)])=(flat g++[(n:Int)])++[(s':Int),(k:Int)] by simp[flat],Ax];exact a4j _ _ (m:=2) rfl (by decide)
     refine⟨_,rfl,_,rfl,_,rfl,pt,_,rfl,y.seqT S,fun p1 H3 e3 s=>?_⟩;rw[L] at s;have v:=y.trans e3;refine⟨_,rfl,_,rfl,bd,p1,l',g,n,N,rfl,s,af.same v,(by lia),v _ _ R,fun t2 H4 O W=>?_,fun H4 hn W=>by rw[J] at hn;cases hn⟩;rw[J] at O;cases O;have b:=v.trans W;rcases ae with⟨c,i,o,ht,hS⟩|⟨c,d,i,ht,hS⟩
     . refine⟨t,_,0,_,rfl,rfl,SqT.of (b _ _ ht),rfl,rfl,_,rfl,iteT ?_⟩;refine⟨_,rfl,p1,flat g,(n:Int),rfl,W.seqT s,by rw[mi];lia,fun p2 H5 e5 h5=>?_⟩;exact⟨g.length,by lia,p2,g,n+1,(e1.trans b).trans e5,by rw[show ((n+1:Nat):Int)=(n:Int)+1 by lia];exact h5,hS.same (b.trans e5),rfl,by lia,rfl⟩
     . refine⟨t,_,0,_,rfl,rfl,SqT.of (b _ _ ht),rfl,rfl,_,rfl,iteU ?_⟩;exact⟨g.length,by lia,p1,g,n,e1.trans b,W.seqT s,hS.same b,rfl,by lia,rfl⟩
   . have U:¬ k=ts.length:=fun z=>of_decide_eq_false c2 (by rw[z,Ad]);rcases r with⟨_,z⟩|⟨z,_⟩
     . exact out I y z
     . exact absurd z U
 . have D:¬ (1:Int)<(((flat p++[(k:Int)]).map V.int).length:Int):=of_decide_eq_false X;have u:p=[]:=B8 (by lia);refine (if_neg Ak).mpr (out G (Same.refl _) ?_);rcases h2 with⟨l,t,ts,hl,h,r,hd,he⟩|⟨l,ts,hl,h,r⟩
   . exact hd
   . obtain⟨N,rfl,h',rfl,_⟩:=hl.zero u;rw[om h h'] at r;rw[u,r]
abbrev a83:KN:=top 8
abbrev a0q:KN:=top 17
noncomputable def places:List (Str×V):=[("read",.int 2),("write",.int 1),("free",.int 1)]
inductive spNumOf(vs:List V)(H:Hp)(Q:VK)(E:XK):Prop
 | nil (d:KA)(h0:vs=[.ref d,.str "nil"])(q:Q (.int 0) H):spNumOf vs H Q E
 | name (d:KA)(kvs:List (Key×V))(x:Str)(v:V)(h0:vs=[.ref d,.str x])(hx:x≠"nil")(h1:H d=some (.dK kvs))(h2:valV kvs (Sum.inr x)=some v)(q:Q v H):spNumOf vs H Q E
inductive spCellName(K:Ab)(vs:List V)(H:Hp)(Q:VK)(E:XK):Prop
 | none (t:KA)(w:Str)(us:List V)(h0:vs=[.ref t])(h1:SqT K H t (.str w::us))(h2:places.lookup w=none)(q:Q .non H):spCellName K vs H Q E
 | some (t:KA)(w:Str)(us:List V)(k:Nat)(v:V)(h0:vs=[.ref t])(h1:SqT K H t (.str w::us))(h2:places.lookup w=some (.int (k:Int)))(h3:(V.str w::us)[k]?=some v)(q:Q v H):spCellName K vs H Q E
theorem aa7(C:Con K mg w)(F:GF K "number_of" a83):FC K mg w 1 "number_of" spNumOf:=by
 refine F.ok C.gf 2 ["values","word"] fun H vs Q E hr h nd=>?_;have a:=l0 hr;refine⟨_,(gi (gz (ng (i6 ig (qv 1) i7) dn (qr a (qv 0) (qv 1) (fun _ _=>rfl))))),?_⟩;rcases h with⟨d,rfl,q⟩|⟨d,kvs,x,v,rfl,g,j,e,q⟩
 . exact⟨_,rfl,rfl,_,rfl,iteB (fun _=>q) (fun c=>absurd c (by simp))⟩
 . refine⟨_,rfl,rfl,_,rfl,iteS g ?_⟩;have b:=DGet.k (k:=Sum.inr x) j;rw[e] at b;exact⟨_,rfl,_,rfl,d,v,rfl,b,q⟩
theorem a35(C:Con K mg w)(F:GF K "cell_name" a0q):FC K mg w 1 "cell_name" (spCellName K):=by
 refine F.ok C.gf 1 ["deed","place"] fun H vs Q E hr h nd=>?_;obtain⟨g,n,j⟩:=C.places;refine⟨_,gc (gu 1 nd (acd (qe_g n) (gq (ik (qv 0) dn) ad)))
  (gi (gz (ng (i6 a2g (qv 1) qd) qd (ik (qv 0) (qv 1))))),?_⟩
 rcases h with⟨t,b,us,rfl,d,e,q⟩|⟨t,b,us,k,v,rfl,d,e,l,q⟩
 . have a:([("read",.int 2),("write",.int 1),("free",.int 1)]:List (Str×V)).lookup b=Option.none:=e;refine⟨g,_,rfl,j,_,rfl,t,_,0,_,rfl,rfl,d,at0,b,rfl,?_⟩;rw[a];exact⟨_,rfl,rfl,_,rfl,iteB (fun _=>q) (fun c=>absurd c (by simp))⟩
 . have a:([("read",.int 2),("write",.int 1),("free",.int 1)]:List (Str×V)).lookup b=Option.some (.int (k:Int)):=e;refine⟨g,_,rfl,j,_,rfl,t,_,0,_,rfl,rfl,d,at0,b,rfl,?_⟩;rw[a];exact⟨_,rfl,rfl,_,rfl,iteB (fun c=>absurd c (by simp)) (fun _=>⟨_,rfl,_,rfl,t,_,_,_,rfl,rfl,d,jg l,q⟩)⟩
theorem qe_fldK(h:X.K=K)(b:QE X e c)(hb:autoParam (KQ e a X.env (eval e X.env)=eval e X.env) a3_):QE X (.Attribute e a pos) (tFld K c a):=by subst h;exact a79 b hb
theorem kx(h:X.K=K)(ha:QE X o e)(d:QE X value c)(hs:autoParam (Kn value (some (.Attribute o b a)) pos.line X.env=pure false) a3_):QS X (.Assign [.Attribute o b a] value pos) (sFld K e c b):=by subst h;exact aff ha d hs
abbrev a6a:KN:=jz (top 28) 0
abbrev a6t:KN:=jz (top 28) 1
abbrev a7x:KN:=jz (top 28) 2
abbrev abl:KN:=jz (top 28) 3
structure TxF(K:Ab)(mg:Str->Option KB)(C fI:KA):Prop where
 cl:Cls K C
 nP:NoAttr K C "procedure"
 nA:NoAttr K C "path"
 nN:NoAttr K C "numbers"
 nR:NoAttr K C "receiver"
 mgC:mg "Frame"=some (.ref C)
 mkC:Mk K C fI
structure FFs(fs:List (Str×V))(pr pt nd:KA)(rc:Str):Prop where
 procedure:fs.lookup ("procedure":Str)=some (.ref pr)
 path:fs.lookup ("path":Str)=some (.ref pt)
 numbers:fs.lookup ("numbers":Str)=some (.ref nd)
 receiver:fs.lookup ("receiver":Str)=some (.str rc)
 len:fs.length<100
 meth:∀m∈([("deed":Str),"move","number"]:List Str),fs.lookup m=none
theorem af0:∀m∈([("deed":Str),"move","number"]:List Str),m≠("path":Str):=by decide
theorem ac3:("procedure":Str)≠"path" /\ ("numbers":Str)≠"path" /\ ("receiver":Str)≠"path" := by decide
theorem FFs.path'(h:FFs fs pr pt nd rc)(hl:fs.length<50)(q:KA):FFs (putF "path" (.ref q) fs) pr q nd rc:=by
 obtain⟨n1,n2,n3⟩:=ac3;refine⟨?_,?_,?_,?_,?_,fun m hm=>?_⟩
 . rw[gn,if_neg n1];exact h.procedure
 . rw[gn,if_pos rfl]
 . rw[gn,if_neg n2];exact h.numbers
 . rw[gn,if_neg n3];exact h.receiver
 . have:=jf "path" (.ref q) fs;lia
 . rw[gn,if_neg (af0 m hm)];exact h.meth m hm
noncomputable def vg(C:KA):Sp:=fun vs H Q E=>∃(p dx pr pt nd:KA) (fs:List (Str×V)) (rc x:Str),vs=[.ref p,.str x]/\H p=some (.ins C dx fs)/\FFs fs pr pt nd rc/\spNumOf [.ref nd,.str x] H Q E0
noncomputable def wk(K:Ab)(C:KA):Sp:=fun vs H Q E=>∃(p dx pr pt nd bd:KA) (fs:List (Str×V)) (rc:Str) (v0 v1 v2 v3 v4:V),vs=[.ref p]/\H p=some (.ins C dx fs)/\FFs fs pr pt nd rc/\H pr=some (.tup [v0,v1,v2,v3,v4,.ref bd])/\spFound K [.ref bd,.ref pt] H Q E0
theorem acw(T:TxF K mg C j)(F:GM K C "number" "Frame.number" abl)(c:FC K mg w 1 "number_of" spNumOf):MC K mg w C 2 "number" (vg C):=by
 refine F.ok id 2 ["self","word"] fun H vs Q E hr h nn=>?_;obtain⟨p,dx,pr,pt,nd,fs,rc,x,rfl,hp,b,q⟩:=h;refine⟨_,(gi (gz (gr c hr (jk (im K (qv 0)) (gj (qv 1) ad))))),?_⟩;exact⟨_,rfl,p,C,dx,fs,_,rfl,hp,T.cl,T.nN,b.numbers,_,rfl,q⟩
theorem a9l(T:TxF K mg C r)(F:GM K C "deed" "Frame.deed" a6t)(c:FC K mg w 3 "found_at" (spFound K)):MC K mg w C 4 "deed" (wk K C):=by
 refine F.ok id 1 ["self"] fun H vs Q E hr h nn=>?_;obtain⟨p,dx,pr,pt,nd,bd,fs,rc,j,g,i,e,m,rfl,hp,b,hpr,q⟩:=h;refine⟨_,(gi (gz (gr c hr (gq (ik (im K (qv 0)) dn) (jk (im K (qv 0)) ad))))),?_⟩;exact⟨_,rfl,p,C,dx,fs,_,rfl,hp,T.cl,T.nP,b.procedure,pr,_,5,_,rfl,rfl,SqT.of hpr,rfl,_,rfl,p,C,dx,fs,_,rfl,hp,T.cl,T.nA,b.path,q⟩
theorem vz:∀{fs:List (Str×V)},fs.lookup f=some x->(putF f v fs).length=fs.length
 | [],h=>by cases h
 | (g,y)::r,h=>by
  unfold putF;by_cases e:g=f
  . rw[if_pos e];rfl
  . rw[if_neg e,AB,AB];rw[Cf,show (f==g)=false from beq_eq_false_iff_ne.mpr (AO e)] at h;rw[vz h]
noncomputable def u9(K:Ab)(C:KA):Sp:=fun vs H Q E=>∃(p dx pr pt nd bd q0:KA) (fs:List (Str×V)) (rc:Str) (v0 v1 v2 v3 v4:V) (pp:Pre) (k:Nat) (due:Pre×Nat) (e:Option KA),vs=[.ref p,.ref q0]/\H p=some (.ins C dx fs)/\FFs fs pr pt nd rc/\fs.length<50/\H pr=some (.tup [v0,v1,v2,v3,v4,.ref bd])/\SqT K H q0 ((flat pp++[(k:Int)]).map V.int)/\Stands H bd pp k due e/\pp.length<=40/\
 ∀q1 fs' H',Same H H'->SqT K H' q1 ((flat due.1++[(due.2:Int)]).map V.int)->FFs fs' pr q1 nd rc->fs'.length=fs.length->(∀f,f≠("path":Str)->fs'.lookup f=fs.lookup f)->Q .non (upd H' p (.ins C dx fs'))
theorem aap(T:TxF K mg C I)(F:GM K C "move" "Frame.move" a7x)(r:FC K mg w 4 "settled" (spSettled K)):MC K mg w C 5 "move" (u9 K C):=by
 refine F.ok id 2 ["self","path"] @fun P base f n A outer G H vs Q E hr h nd=>?_;obtain⟨p,dx,pr,pt,nd,bd,j,fs,rc,y,u,v,o,D,pp,k,due,e,rfl,hp,b,hl,hpr,hq,a,g,q⟩:=h;refine⟨_,(gi (kx (K:=K) rfl (qv 0) (gr r hr (gq (ik (im K (qv 0)) dn) (gj (qv 1) ad))))),?_⟩;refine⟨_,rfl,p,C,dx,fs,_,rfl,hp,T.cl,T.nP,b.procedure,pr,_,5,_,rfl,rfl,SqT.of hpr,rfl,_,rfl,bd,j,pp,k,due,e,rfl,hq,a,g,fun l m i z=>?_⟩;refine⟨_,rfl,p,C,dx,fs,rfl,i _ _ hp,T.cl,T.nA,by lia,?_⟩;exact q l _ m i z (b.path' hl l) (vz b.path) fun f d=>by rw[gn,if_neg d]
noncomputable def lv(kvs:List (Key×V))(zs:List Str):List (Str×V):=zs.map fun z=>(z,(valV kvs (Sum.inr z)).getD (.int 0))
inductive spFInit(K:Ab)(C:KA)(bs:List Nat)(vs:List V)(H:Hp)(Q:VK)(E:XK):Prop
 | mk (G:Hp)(p dx t q0 nm bd:KA)(rc:Str)(pc:Prc)(xs:List Str)(v0 v1 v2 v3 v4:V)(kvs:List (Key×V))(pp:Pre)(k:Nat)(due:Pre×Nat)(e:Option KA)(h0:vs=[.ref p,.ref t,.ref q0,.ref nm,.str rc])(eG:Same G H)(hp:G p=none)(hp1:H p=some (.ins C dx []))(h1:PrcAt K G bs t pc)(h2:PrcOk bs xs pc)(hbd:G t=some (.tup [v0,v1,v2,v3,v4,.ref bd]))(h3:SqT K G q0 ((flat pp++[(k:Int)]).map V.int))(h4:Stands G bd pp k due e)(h5:pp.length<=40)(h6:G nm=some (.dK kvs))(q:∀q1 nd fs zs H',Same G H'->H' p=some (.ins C dx fs)->FFs fs t q1 nd rc->fs.length<=4->SqT K H' q1 ((flat due.1++[(due.2:Int)]).map V.int)->H nd=none->H' nd=some (.dK ((lv kvs zs).map kk))->zs.Nodup->DV zs=true->(∀y,y∈zs↔i8 y=true/\y∈allW bs pc)->Q .non H'):spFInit K C bs vs H Q E
theorem ac7:("procedure":Str)≠"path" /\ ("procedure":Str)≠"numbers" /\ ("procedure":Str)≠"receiver" /\ ("path":Str)≠"numbers" /\ ("path":Str)≠"receiver" /\ ("numbers":Str)≠"receiver" := by decide
theorem afu:∀m∈([("deed":Str),"move","number"]:List Str),m≠("procedure":Str)/\m≠("path":Str)/\m≠("numbers":Str)/\m≠("receiver":Str):=by decide
theorem acn(pr pt nd:KA)(rc:Str):FFs (putF "receiver" (.str rc) (putF "numbers" (.ref nd) (putF "path" (.ref pt) (putF "procedure" (.ref pr) [])))) pr pt nd rc/\(putF "receiver" (.str rc) (putF "numbers" (.ref nd) (putF "path" (.ref pt) (putF "procedure" (.ref pr) [])))).length<=4:=by
 obtain⟨n1,n2,n3,n4,n5,b⟩:=ac7;have c:=jf "procedure" (.ref pr) [];have e:=jf "path" (.ref pt) (putF "procedure" (.ref pr) []);have f:=jf "numbers" (.ref nd) (putF "path" (.ref pt) (putF "procedure" (.ref pr) []));have g:=jf "receiver" (.str rc) (putF "numbers" (.ref nd) (putF "path" (.ref pt) (putF "procedure" (.ref pr) [])));simp only[Hm] at c;refine⟨⟨?_,?_,?_,?_,by lia,fun m hm=>?_⟩,by lia⟩
 . rw[gn,if_neg n3,gn,if_neg n2,gn,if_neg n1,gn,if_pos rfl]
 . rw[gn,if_neg n5,gn,if_neg n4,gn,if_pos rfl]
 . rw[gn,if_neg b,gn,if_pos rfl]
 . rw[gn,if_pos rfl]
 . obtain⟨m1,m2,a,d⟩:=afu m hm;rw[gn,if_neg d,gn,if_neg a,gn,if_neg m2,gn,if_neg m1];rfl
theorem zu:∀{us:List KA}{zs:List Str},KI (fun b (z:Str)=>b≠D/\H b=some (.tup [.str z,(valV kvs (Sum.inr z)).getD (.int 0)])) us zs->KI (fun t (kv:Str×V)=>SqT K H t [.str kv.1,kv.2]) us (lv kvs zs)
 | _,_,.nil=>.nil
 | _,_,.cons h r=>.cons (SqT.of h.2) (zu r)
theorem a8v(hn:4<=n)(C':Con K mg w)(T:TxF K mg C fI)(F:GM K C "__init__" "Frame.__init__" a6a)(GS:FC K mg w 4 "settled" (spSettled K))(GN:FC K mg w n "names_in" (spNamesIn K bs)):MC K mg w C (n+1) "__init__" (spFInit K C bs):=by
 refine F.ok id 5 ["self","procedure","path","numbers","receiver"] fun H vs Q E hr h nd=>?_;obtain⟨G,p,dx,t,q0,nm,bd,rc,pc,xs,v0,v1,v2,v3,v4,kvs,pp,k,due,e,rfl,eG,hp,af,h1,h2,hbd,h3,h4,h5,h6,q⟩:=h;have ag:=hr.mono (j:=4) (by lia);have ah:=l0 hr;refine⟨_,gc (kx (K:=K) rfl (qv 0) (qv 1))
  (gc (kx (K:=K) rfl (qv 0) (gr GS ag (gq (ik (qv 1) dn) (gj (qv 2) ad))))
  (gc (kx (K:=K) rfl (qv 0) (ii (zi (K:=K) rfl rfl) rfl C'.dict BW (jk (a94 ["name","numbers"] [3] (me (gr GN hr (gj (qv 1) ad))) (fun _ _ _ _=>mn) (fun _ _ _ _=>(j5 (gj (qv 0) (gw (a9x ah (qv 1) (qv 0) dn) ad))))) ad)))
  (gi (kx (K:=K) rfl (qv 0) (qv 4))))),?_⟩
 have small:∀{n:Nat},n<=10->n<1000:=fun h=>by lia
 refine⟨_,rfl,_,rfl,p,C,dx,_,rfl,af,T.cl,T.nP,small (AH _),?_⟩;have g1:Same G (upd H p (.ins C dx (putF "procedure" (.ref t) []))):=fun b o z=>by rw[f6 (gh z hp)];exact eG _ _ z
 have k1:(upd H p (.ins C dx (putF "procedure" (.ref t) []))) p=some (.ins C dx (putF "procedure" (.ref t) [])):=g8;have f1:∀c,(upd H p (.ins C dx (putF "procedure" (.ref t) []))) c=none->H c=none:=fun c z=>by
  by_cases y:c=p
  . rw[y,g8] at z;cases z
  . rw[f6 y] at z;exact z
 generalize upd H p (.ins C dx (putF "procedure" (.ref t) []))=H1 at g1 k1 f1 |-;have l1:=jf "procedure" (.ref t) [];simp only[Hm] at l1;refine⟨_,rfl,t,_,5,_,rfl,rfl,SqT.of (g1 _ _ hbd),rfl,_,rfl,bd,q0,pp,k,due,e,rfl,g1.seqT h3,h4.same g1,h5,fun i Z Y hq1=>?_⟩;have l2:=jf "path" (.ref i) (putF "procedure" (.ref t) []);refine⟨_,rfl,p,C,dx,_,rfl,Y _ _ k1,T.cl,T.nA,small (by lia),?_⟩;have g2:=g1.trans Y;have W:Same G (upd Z p (.ins C dx (putF "path" (.ref i) (putF "procedure" (.ref t) [])))):=fun b o z=>by rw[f6 (gh z hp)];exact g2 _ _ z
 have k3:(upd Z p (.ins C dx (putF "path" (.ref i) (putF "procedure" (.ref t) [])))) p=some (.ins C dx (putF "path" (.ref i) (putF "procedure" (.ref t) []))):=g8;have f3:∀c,(upd Z p (.ins C dx (putF "path" (.ref i) (putF "procedure" (.ref t) [])))) c=none->H c=none:=fun c z=>by
  by_cases y:c=p
  . rw[y,g8] at z;cases z
  . rw[f6 y] at z;exact f1 c (Y.free z)
 have put:∀{H':Hp} {fs fs':List (Str×V)} {a:KA} {ys:List V},H' p=some (.ins C dx fs)->SqT K H' a ys->SqT K (upd H' p (.ins C dx fs')) a ys:=fun {H' fs fs' a ys} L h=>by
  rcases h with (h|⟨o,h⟩)|h
  . exact .inl (.inl (by rw[f6 (fun z=>by rw[z,L] at h;cases h)];exact h))
  . exact .inl (.inr ⟨o,by rw[f6 (fun z=>by rw[z,L] at h;cases h)];exact h⟩)
  . exact .inr h
 have S:=put (fs':=putF "path" (.ref i) (putF "procedure" (.ref t) [])) (Y _ _ k1) hq1;generalize upd Z p (.ins C dx (putF "path" (.ref i) (putF "procedure" (.ref t) [])))=H3 at W k3 f3 S |-;refine⟨_,rfl,G,t,pc,xs,rfl,W,h1,h2,fun zl zs H4 e4 ak kz m ae I=>?_⟩;have g4:=W.trans e4;have aa:zs.length<=20:=Aw (AV m fun y hy=>h2.names y ((I y).mp hy).2 ((I y).mp hy).1) h2.len;refine⟨zl,rfl,⟨_,SqL.of kz⟩,?_⟩;refine nk (zs.map V.str) zs (fun D G' y (z:Str)=>∃b,y=V.ref b/\b≠D/\G' b=some (.tup [.str z,(valV kvs (Sum.inr z)).getD (.int 0)])) id nr (SqL.of kz) (by rw[Ad];lia) (by rw[Ad]) (fun D G1 G2 y x z e=>?_) (fun D hD j x r hx ac X e5 u Q' q'=>?_) (fun D X ys hD e5 u hpt=>?_)
 . obtain⟨b,rfl,nb,hb⟩:=z;exact⟨b,rfl,nb,e _ _ hb nb⟩
 . have ab:x=.str r:=by rw[Am,ac] at hx;exact (Au hx).symm
   subst ab;have M:=(g4.trans e5) _ _ h6;have g:=DGet.k (k:=Sum.inr r) M;refine⟨_,rfl,_,rfl,nm,rfl,.inl ⟨_,.inl M⟩,_,rfl,_,g,(szLn 2),fun b hb=>q' (.ref b) _ (gk hb _) ⟨b,rfl,fun z=>?_,g8⟩⟩;rw[z] at hb;exact u hb
 rw[CZ] at hpt;obtain⟨us,rfl,O⟩:=m9 (R:=fun b (z:Str)=>b≠D/\X b=some (.tup [.str z,(valV kvs (Sum.inr z)).getD (.int 0)])) hpt;have aj:=Ay O;refine⟨D,us,lv kvs zs,rfl,SqL.of u,zu O,?_,(by lia),fun d l=>?_⟩
 . unfold lv;rw[BA];have:(zs.map ((fun x=>x.1)∘fun z=>(z,(valV kvs (Sum.inr z)).getD (.int 0))))=zs:=by
    have e:((fun x:Str×V=>x.1)∘fun z:Str=>(z,(valV kvs (Sum.inr z)).getD (.int 0)))=id:=rfl;rw[e,CZ]
   rw[this];exact m
 have J:=e4.trans e5;have s6:=gk l (.dK ((lv kvs zs).map kk));have U:(upd X d (.dK ((lv kvs zs).map kk))) d=some (.dK ((lv kvs zs).map kk)):=g8;have nH:H d=none:=f3 _ (J.free l);generalize upd X d (.dK ((lv kvs zs).map kk))=H6 at s6 U |-;have v:=J.trans s6;have s:=v _ _ k3;have l3:=jf "numbers" (.ref d) (putF "path" (.ref i) (putF "procedure" (.ref t) []));refine⟨_,rfl,p,C,dx,_,rfl,s,T.cl,T.nN,small (by lia),?_⟩;refine⟨_,rfl,_,rfl,p,C,dx,_,rfl,g8,T.cl,T.nR,small (by lia),?_⟩;obtain⟨FF,fl⟩:=acn t i d rc;have N:d≠p:=fun z=>by rw[z,s] at U;cases U
 refine q i d _ zs _ (fun b o z=>?_) g8 FF fl (put g8 (put s (v.seqT S))) nH ?_ m ae I
 . rw[f6 (gh z hp),f6 (gh z hp)];exact (W.trans v) _ _ z
 . rw[f6 N,f6 N];exact U
abbrev a30:KN:=jz (top 29) 0
abbrev a6g:KN:=jz (top 29) 1
abbrev a6k:KN:=jz (top 29) 3
abbrev a6j:KN:=jz (top 29) 4
abbrev a7g:KN:=jz (top 29) 6
abbrev a3x:KN:=jz (top 29) 9
abbrev a2w:KN:=jz (top 29) 10
structure TxM(K:Ab)(mg:Str->Option KB)(C fI:KA):Prop where
 cl:Cls K C
 nP:NoAttr K C "procedures"
 nF:NoAttr K C "frames"
 nC:NoAttr K C "cells"
 nG:NoAttr K C "greatest"
 nL:NoAttr K C "fallen"
 mgC:mg "Machine"=some (.ref C)
 mkC:Mk K C fI
noncomputable def mj:List Str:=["word","where","held","heap","go","step","branch","enter","leave_ended","change"]
structure MFs(fs:List (Str×V))(pd fl cd:KA)(g:Int)(b:Bool):Prop where
 procedures:fs.lookup ("procedures":Str)=some (.ref pd)
 frames:fs.lookup ("frames":Str)=some (.ref fl)
 cells:fs.lookup ("cells":Str)=some (.ref cd)
 greatest:fs.lookup ("greatest":Str)=some (.int g)
 fallen:fs.lookup ("fallen":Str)=some (.bl b)
 len:fs.length<100
 meth:∀m∈mj,fs.lookup m=none
structure MaAt(CM CF:KA)(H:Hp)(m pd fl cd p pr pt nd:KA)(fps:List KA)(g:Int)(b:Bool)(rc:Str):Prop where
 ob:∃dx fs,H m=some (.ins CM dx fs)/\MFs fs pd fl cd g b
 frs:H fl=some (.lst ((fps++[p]).map V.ref))
 fr:∃dx fs,H p=some (.ins CF dx fs)/\FFs fs pr pt nd rc/\fs.length<50
noncomputable def a7o(CM CF:KA):Sp:=fun vs H Q E=>∃(m pd fl cd p pr pt nd:KA) (fps:List KA) (g:Int) (b:Bool) (rc:Str) (kvs:List (Key×V)),vs=[.ref m]/\MaAt CM CF H m pd fl cd p pr pt nd fps g b rc/\H nd=some (.dK kvs)/\∀a,H a=none->Q (.ref a) (upd H a (.dK kvs))
noncomputable def a82(CM:KA):Sp:=fun vs H Q E=>∃(m dx pd fl cd:KA) (fs:List (Str×V)) (g:Int) (b:Bool) (kvs:List (Key×V)),vs=[.ref m]/\H m=some (.ins CM dx fs)/\MFs fs pd fl cd g b/\H cd=some (.dK kvs)/\∀a,H a=none->Q (.ref a) (upd H a (.dK kvs))
inductive spWord(K:Ab)(CM CF:KA)(vs:List V)(H:Hp)(Q:VK)(E:XK):Prop
 | fall (m dx pd fl cd:KA)(fs:List (Str×V))(g:Int)(h0:vs=[.ref m])(h1:H m=some (.ins CM dx fs))(h2:MFs fs pd fl cd g true)(q:Q (.str "fall") H):spWord K CM CF vs H Q E
 | fine (m pd fl cd p pr pt nd bd l:KA)(fps:List KA)(g:Int)(rc:Str)(v0 v1 v2 v3 v4:V)(pp:Pre)(k:Nat)(ts:List KA)(h0:vs=[.ref m])(h1:MaAt CM CF H m pd fl cd p pr pt nd fps g false rc)(h2:H pr=some (.tup [v0,v1,v2,v3,v4,.ref bd]))(h3:SqT K H pt ((flat pp++[(k:Int)]).map V.int))(h4:LFrom H bd pp l)(h5:pp.length<=100)(h6:H l=some (.lst (ts.map V.ref)))(q:∀H',Same H H'->Q (.str (if k<ts.length then "on" else "end")) H'):spWord K CM CF vs H Q E
theorem abw(C:Con K mg w)(T:TxM K mg i u)(U:TxF K mg j v)(F:GM K i "held" "Machine.held" a6k):MC K mg w i 1 "held" (a7o i j):=by
 refine F.ok id 1 ["self"] fun H vs Q E hr h nd=>?_;obtain⟨m,r,o,cd,p,pr,pt,e,n,g,b,rc,kvs,rfl,⟨⟨dx,fs,hm,c⟩,hfl,⟨d,fs',hp,a,_⟩⟩,hn,q⟩:=h;refine⟨_,(gi (gz (ii qf rfl C.dict BW (jk (im K (sv (im K (qv 0)) (jx jm dn))) ad)))),?_⟩;rw[Ax] at hfl;exact⟨_,rfl,m,i,dx,fs,_,rfl,hm,T.cl,T.nF,c.frames,_,rfl,o,_,_,_,rfl,rfl,SqL.of hfl,jh,p,j,d,fs',_,rfl,hp,U.cl,U.nN,a.numbers,e,kvs,rfl,hn,q⟩
theorem acy(C:Con K mg w)(T:TxM K mg c j)(F:GM K c "heap" "Machine.heap" a6j):MC K mg w c 1 "heap" (a82 c):=by
 refine F.ok id 1 ["self"] fun H vs Q E hr h nd=>?_;obtain⟨m,dx,e,l,cd,fs,g,b,kvs,rfl,hm,a,hc,q⟩:=h;refine⟨_,(gi (gz (ii qf rfl C.dict BW (jk (im K (qv 0)) ad)))),?_⟩;exact⟨_,rfl,m,c,dx,fs,_,rfl,hm,T.cl,T.nC,a.cells,cd,kvs,rfl,hc,q⟩
theorem acb(C:Con K mg w)(T:TxM K mg i Y)(U:TxF K mg r Z)(F:GM K i "word" "Machine.word" a6g)(M:MC K mg w r 4 "deed" (wk K r)):MC K mg w i 5 "word" (spWord K i r):=by
 refine F.ok id 1 ["self"] fun H vs Q E hr h nd=>?_;refine⟨_,gc (ij (a2z (im K (qv 0))) (gi (gz i7)) iq)
  (gi (gz (ng (i6 a2g (jq (sv (im K (qv 0)) (jx jm dn)) U.cl M hr) qd) i7 i7))),?_⟩
 rcases h with⟨m,dx,L,y,cd,fs,g,rfl,hm,a,q⟩|⟨m,L,y,cd,p,pr,pt,u,bd,l,G,g,rc,R,N,O,I,W,pp,k,ts,rfl,⟨⟨dx,fs,hm,a⟩,hfl,⟨d,fs',hp,b,_⟩⟩,hpr,hpt,j,s,n,q⟩
 . exact⟨_,rfl,m,i,dx,fs,_,rfl,hm,T.cl,T.nL,a.fallen,_,rfl,iteB (fun _=>q) (fun c=>by cases c)⟩
 . refine⟨_,rfl,m,i,dx,fs,_,rfl,hm,T.cl,T.nL,a.fallen,_,rfl,iteB (fun c=>by cases c) (fun _=>?_)⟩;rw[Ax] at hfl;refine⟨_,rfl,m,i,dx,fs,_,rfl,hm,T.cl,T.nF,a.frames,_,rfl,y,_,_,_,rfl,rfl,SqL.of hfl,jh,p,d,fs',rfl,hp,b.meth _ (by simp),?_⟩;refine⟨p,d,pr,pt,u,bd,fs',rc,R,N,O,I,W,rfl,hp,b,hpr,?_⟩;refine⟨bd,pt,l,pp,k,ts,rfl,hpt,j,s,n,fun t H' ht e=>?_,fun H' hn e=>?_⟩
   . have o:=(Az.mp ht).1;have:=q H' e;rw[if_pos o] at this;exact⟨rfl,_,rfl,iteB (fun c=>by cases of_decide_eq_true c) (fun _=>this)⟩
   . have o:¬ k<ts.length:=fun z=>by rw[Af z] at hn;cases hn
     have:=q H' e;rw[if_neg o] at this;exact⟨rfl,_,rfl,iteB (fun _=>this) (fun c=>absurd rfl (of_decide_eq_false c))⟩
end K55
namespace L2
open PyProof.Rows
theorem af7(b:β)(f:Nat->β->Sem (ForInStep β)):forIn [:min 2 2] b f=(do
 match<-f 0 b with
 | .done r=>pure r
 | .yield r =>
  match<-f 1 r with
  | .done r=>pure r
  | .yield r=>pure r):=by
 rw[Std.Legacy.Range.forIn_eq_forIn_range'];show forIn [0,1] b f=_;simp only[Dz,DN];rfl
theorem a0j(K:Ab)(hK:X.K=K):MtR X "tuple.index" (fun a vs H Q=>∃p x y z,a=.ref p/\vs=[.str z]/\SqT K H p [.str x,.str y]/\x≠y/\((z=x/\Q (.int 0) H)\/(z=y/\Q (.int 1) H))):=by
 subst hK;intro f s σ H a vs v us Q I j l h;obtain⟨p,x,y,z,rfl,rfl,hp,b,h⟩:=h;cases j;obtain⟨u,rfl,t,rfl⟩:=l.one;obtain⟨its,r,ht,_⟩:=I.tuple hp;obtain⟨d,c,rfl,⟨t1,rfl⟩,⟨t2,rfl⟩⟩:∃d c,its=[d,c]/\RelV (.str x) d/\RelV (.str y) c:=by
  cases r with
  | cons a1 b1=>cases b1 with
   | cons a2 b2=>cases b2;exact⟨_,_,rfl,a1,a2⟩
 obtain⟨o,i,hc,n,hd⟩:=id ht;refine Bp Er ht.typeIs PySem.F.entry_tuple_index ?_ (PySem.F.args_tuple_index_2 _ _);refine Aa (EJ (show selfAndSome "tuple.index" "index" 1 3 ⟨[.ref p,.str z t],[]⟩=pure (.ref p,[.str z t]) from rfl) ?_);refine Aa (wpAny_tupleItemsOf i hd ?_);refine Aa (Ae (Aa (Ae ?_)));have e:=Eh (A:=X.A.in1) (s:=s) x t1 z t;have g:=Eh (A:=X.A.in1) (s:=s) y t2 z t;show KC _ _ ((forIn [0:min 2 2] _ _)>>=_) _ _ _;rw[af7];rcases h with⟨rfl,q⟩|⟨rfl,q⟩
 . refine Aa (Aa (Aa (e _ _ _ _ ?_)));rw[beq_self_eq_true,if_pos rfl];exact Aa (Aa (wpAny_mkInt (Ae (Ae (Ae (Ae ⟨_,rfl,.int 0,H,I.tok _,⟨_,rfl⟩,q⟩))))))
 . refine Aa (Aa (Aa (e _ _ _ _ ?_)));rw[beq_false_of_ne b,if_neg Ak];refine Ae (Aa (Aa (g _ _ _ _ ?_)));rw[beq_self_eq_true,if_pos rfl];exact Aa (Aa (wpAny_mkInt (Ae (Ae (Ae (Ae ⟨_,rfl,.int 1,H,I.tok _,⟨_,rfl⟩,q⟩))))))
end L2
namespace K55
open L2 Mir
noncomputable def numV(kvs:List (Key×V))(x:Str):Option V:=if x="nil" then some (.int 0) else valV kvs (Sum.inr x)
theorem li(c:H d=some (.dK kvs))(a:numV kvs x=some v)(q:Q v H):spNumOf [.ref d,.str x] H Q E:=by
 unfold numV at a;by_cases b:x="nil"
 . rw[if_pos b] at a;cases a;exact .nil d (by rw[b]) q
 . rw[if_neg b] at a;exact .name d kvs x v rfl b c a q
inductive spChange(K:Ab)(CM CF:KA)(vs:List V)(H:Hp)(Q:VK)(E:XK):Prop
 | set (m p dx pr pt nd t:KA)(fs:List (Str×V))(rc x y:Str)(kvs:List (Key×V))(v:V)(h0:vs=[.ref m,.ref p,.ref t])(h1:H p=some (.ins CF dx fs))(h2:FFs fs pr pt nd rc)(h3:H t=some (.tup [.str "set",.str x,.str y]))(h4:H nd=some (.dK kvs))(h5:kvs.length<=100)(h6:numV kvs y=some v)(q:Q .non (upd H nd (.dK (putK kvs (Sum.inr x) v)))):spChange K CM CF vs H Q E
 | free (m p dm dx pr pt nd pd fl cd t:KA)(fm fs:List (Str×V))(rc x:Str)(g:Int)(b:Bool)(kvs cvs:List (Key×V))(i:Int)(c:V)(h0:vs=[.ref m,.ref p,.ref t])(hm:H m=some (.ins CM dm fm))(hM:MFs fm pd fl cd g b)(h1:H p=some (.ins CF dx fs))(h2:FFs fs pr pt nd rc)(h3:H t=some (.tup [.str "free",.str x]))(h4:H nd=some (.dK kvs))(h6:numV kvs x=some (.int i))(h7:H cd=some (.dK cvs))(h8:valV cvs (Sum.inl i)=some c)(q:Q .non (upd H cd (.dK (sx cvs (Sum.inl i))))):spChange K CM CF vs H Q E
 | new (m p dm dx pr pt nd pd fl cd t:KA)(fm fs:List (Str×V))(rc x y z:Str)(g:Int)(b:Bool)(kvs cvs:List (Key×V))(v1 v2:V)(h0:vs=[.ref m,.ref p,.ref t])(hm:H m=some (.ins CM dm fm))(hM:MFs fm pd fl cd g b)(hl:fm.length<50)(hne:m≠p)(hnc:nd≠cd)(h1:H p=some (.ins CF dx fs))(h2:FFs fs pr pt nd rc)(h3:H t=some (.tup [.str "new",.str x,.str y,.str z]))(h4:H nd=some (.dK kvs))(h5:kvs.length<=100)(h6:numV kvs y=some v1)(h6':numV kvs z=some v2)(h7:H cd=some (.dK cvs))(h8:cvs.length<=900)(q:∀c,H c=none->Q .non (upd (upd (upd (upd H c (.tup [v1,v2])) m (.ins CM dm (putF "greatest" (.int (g+1)) fm))) cd (.dK (putK cvs (Sum.inl (g+1)) (.ref c)))) nd (.dK (putK kvs (Sum.inr x) (.int (g+1)))))):spChange K CM CF vs H Q E
 | read (m p dm dx pr pt nd pd fl cd t c:KA)(fm fs:List (Str×V))(rc x y fld:Str)(g:Int)(b:Bool)(kvs cvs:List (Key×V))(i:Int)(v0 v1 v:V)(h0:vs=[.ref m,.ref p,.ref t])(hm:H m=some (.ins CM dm fm))(hM:MFs fm pd fl cd g b)(h1:H p=some (.ins CF dx fs))(h2:FFs fs pr pt nd rc)(h3:H t=some (.tup [.str "read",.str x,.str y,.str fld]))(h4:H nd=some (.dK kvs))(h5:kvs.length<=100)(h6:numV kvs y=some (.int i))(h7:H cd=some (.dK cvs))(h8:valV cvs (Sum.inl i)=some (.ref c))(h9:SqT K H c [v0,v1])(h10:(fld="first" /\ v=v0)\/(fld="second" /\ v=v1))(q:Q .non (upd H nd (.dK (putK kvs (Sum.inr x) v)))):spChange K CM CF vs H Q E
 | write (m p dm dx pr pt nd pd fl cd t c:KA)(fm fs:List (Str×V))(rc y fld z:Str)(g:Int)(b:Bool)(kvs cvs:List (Key×V))(i:Int)(v0 v1 v w0 w1:V)(h0:vs=[.ref m,.ref p,.ref t])(hm:H m=some (.ins CM dm fm))(hM:MFs fm pd fl cd g b)(h1:H p=some (.ins CF dx fs))(h2:FFs fs pr pt nd rc)(h3:H t=some (.tup [.str "write",.str y,.str fld,.str z]))(h4:H nd=some (.dK kvs))(h6:numV kvs y=some (.int i))(h6':numV kvs z=some v)(h7:H cd=some (.dK cvs))(hl:cvs.length<=900)(h8:valV cvs (Sum.inl i)=some (.ref c))(h9:SqT K H c [v0,v1])(h10:(fld="first" /\ w0=v/\w1=v1)\/(fld="second" /\ w0=v0/\w1=v))(q:∀r H',Same H H'->H r=none->H' r=some (.tup [w0,w1])->Q .non (upd H' cd (.dK (putK cvs (Sum.inl i) (.ref r))))):spChange K CM CF vs H Q E
theorem ad9:("procedures":Str)≠"greatest" /\ ("frames":Str)≠"greatest" /\ ("cells":Str)≠"greatest" /\ ("fallen":Str)≠"greatest" := by decide
theorem aey:∀m∈mj,m≠("greatest":Str):=by decide
theorem MFs.great(h:MFs fs a c cd g b)(hl:fs.length<50)(g':Int):MFs (putF "greatest" (.int g') fs) a c cd g' b:=by
 obtain⟨n1,n2,n3,n4⟩:=ad9;refine⟨?_,?_,?_,?_,?_,?_,fun m hm=>?_⟩
 . rw[gn,if_neg n1];exact h.procedures
 . rw[gn,if_neg n2];exact h.frames
 . rw[gn,if_neg n3];exact h.cells
 . rw[gn,if_pos rfl]
 . rw[gn,if_neg n4];exact h.fallen
 . have:=jf "greatest" (.int g') fs;lia
 . rw[gn,if_neg (aey m hm)];exact h.meth m hm
theorem a72(C:Con K mg w)(T:TxM K mg n fI)(U:TxF K mg M fJ)(F:GM K n "change" "Machine.change" a2w)(W:MC K mg w M 2 "number" (vg M)):MC K mg w n 3 "change" (spChange K n M):=by
 refine F.ok id 3 ["self","frame","deed","cell"] @fun P base f aw A outer s0 H vs Q E hr h nd=>?_;have I:=l0 hr;obtain⟨aF,gF,hF,oF,lF,cF,dF⟩:=C.fields;refine⟨_,(gi (ij (i6 ig (gx K (qv 2) dn) i7) (gi (km I (im K (qv 1)) (gx K (qv 2) dn) (kh (qv 1) U.cl W hr (gq (gx K (qv 2) dn) ad)))) (gi (ij (i6 ig (gx K (qv 2) dn) i7) (gi (km I (im K (qv 1)) (gx K (qv 2) dn) (gx K (qr I (im K (qv 0)) (kh (qv 1) U.cl W hr (gq (gx K (qv 2) dn) ad)) (fun _ _=>rfl)) (jr (K:=K) rfl Gz Er G0 (a0j K rfl) (qe_g gF) (gq (gx K (qv 2) dn) ad))))) (gi (ij (i6 ig (gx K (qv 2) dn) i7) (gc (gu 3 nd (ii jl rfl C.list Bt (gq (qr I (im K (qv 0)) (kh (qv 1) U.cl W hr (gq (gx K (qv 2) dn) ad)) (fun _ _=>rfl)) ad)))
  (gc (pq (kh (qv 1) U.cl W hr (gq (gx K (qv 2) dn) ad)) (yy (qv 3) (jr (K:=K) rfl Gz Er G0 (a0j K rfl) (qe_g gF) (gq (gx K (qv 2) dn) ad)) v6))
  (gi (km I (im K (qv 0)) (kh (qv 1) U.cl W hr (gq (gx K (qv 2) dn) ad)) (ii qh rfl C.tuple E7 (gj (qv 3) ad)))))) (gi (ij (i6 ig (gx K (qv 2) dn) i7) (gc (gu 3 nd (j5 (gw (kh (qv 1) U.cl W hr (gq (gx K (qv 2) dn) ad)) (gw (kh (qv 1) U.cl W hr (gq (gx K (qv 2) dn) ad)) ad))))
  (gc (kx (K:=K) rfl (qv 0) (gp ir (im K (qv 0)) dn))
  (gc (km I (im K (qv 0)) (im K (qv 0)) (qv 3))
  (gi (km I (im K (qv 1)) (gx K (qv 2) dn) (im K (qv 0))))))) (gi (ia (a9d (im K (qv 0)) (kh (qv 1) U.cl W hr (gq (gx K (qv 2) dn) ad))))))))))))),?_⟩
 rcases h with⟨m,p,dx,pr,pt,d,t,fs,rc,x,y,kvs,v,rfl,hp,a,ht,hn,hl,S,q⟩|⟨m,p,j,dx,pr,pt,d,pd,fl,cd,t,u,fs,rc,x,g,b,kvs,e,i,c,rfl,hm,N,hp,a,ht,hn,S,hc,L,q⟩|⟨m,p,j,dx,pr,pt,d,pd,fl,cd,t,u,fs,rc,x,y,z,g,b,kvs,e,X,v2,rfl,hm,N,hl,ao,ar,hp,a,ht,hn,av,au,Y,hc,al,q⟩|⟨m,p,j,dx,pr,pt,d,pd,fl,cd,t,c,u,fs,rc,x,y,fld,g,b,kvs,e,i,v0,X,v,rfl,hm,N,hp,a,ht,hn,av,S,hc,L,O,J,q⟩|⟨m,p,j,dx,pr,pt,d,pd,fl,cd,t,c,u,fs,rc,y,fld,z,g,b,kvs,e,i,v0,X,v,w0,w1,rfl,hm,N,hp,a,ht,hn,S,Y,hc,al,L,O,J,q⟩
 . refine⟨_,rfl,t,_,0,_,rfl,rfl,SqT.of ht,rfl,rfl,_,rfl,iteT ?_⟩;refine⟨_,rfl,p,dx,fs,rfl,hp,a.meth _ (by simp),_,rfl,t,_,2,_,rfl,rfl,SqT.of ht,rfl,p,dx,pr,pt,d,fs,rc,y,rfl,hp,a,li hn S ?_⟩;exact⟨_,rfl,p,M,dx,fs,_,rfl,hp,U.cl,U.nN,a.numbers,_,rfl,t,_,1,_,rfl,rfl,SqT.of ht,rfl,d,_,rfl,DPut.k (k:=Sum.inr x) hn (j9 (by lia)),q⟩
 . refine⟨_,rfl,t,_,0,_,rfl,rfl,SqT.of ht,rfl,rfl,_,rfl,iteU ?_⟩;refine⟨_,rfl,t,_,0,_,rfl,rfl,SqT.of ht,rfl,rfl,_,rfl,iteU ?_⟩;refine⟨_,rfl,t,_,0,_,rfl,rfl,SqT.of ht,rfl,rfl,_,rfl,iteU ?_⟩;refine⟨_,rfl,t,_,0,_,rfl,rfl,SqT.of ht,rfl,rfl,_,rfl,iteU ?_⟩;refine⟨_,rfl,m,n,j,u,_,rfl,hm,T.cl,T.nC,N.cells,cd,rfl,.inl ⟨_,.inl hc⟩,?_⟩;refine⟨_,rfl,p,dx,fs,rfl,hp,a.meth _ (by simp),_,rfl,t,_,1,_,rfl,rfl,SqT.of ht,rfl,p,dx,pr,pt,d,fs,rc,x,rfl,hp,a,li hn S ?_⟩;exact⟨e,Sum.inl i,c,hc,rfl,L,q⟩
 . refine⟨_,rfl,t,_,0,_,rfl,rfl,SqT.of ht,rfl,rfl,_,rfl,iteU ?_⟩;refine⟨_,rfl,t,_,0,_,rfl,rfl,SqT.of ht,rfl,rfl,_,rfl,iteU ?_⟩;refine⟨_,rfl,t,_,0,_,rfl,rfl,SqT.of ht,rfl,rfl,_,rfl,iteU ?_⟩;refine⟨_,rfl,t,_,0,_,rfl,rfl,SqT.of ht,rfl,rfl,_,rfl,iteT ?_⟩;refine⟨_,rfl,p,dx,fs,rfl,hp,a.meth _ (by simp),_,rfl,t,_,2,_,rfl,rfl,SqT.of ht,rfl,p,dx,pr,pt,d,fs,rc,y,rfl,hp,a,li hn au ?_⟩;refine⟨_,rfl,p,dx,fs,rfl,hp,a.meth _ (by simp),_,rfl,t,_,3,_,rfl,rfl,SqT.of ht,rfl,p,dx,pr,pt,d,fs,rc,z,rfl,hp,a,li hn Y ?_⟩;refine⟨(szLn 2),fun c af=>?_⟩;have D:=gk af (.tup [X,v2]);have q1:=q c af;generalize upd H c (.tup [X,v2])=R at D q1 |-;have ak:=D _ _ hm;refine⟨_,rfl,m,n,j,u,_,rfl,ak,T.cl,T.nG,N.greatest,_,_,rfl,rfl,_,rfl,m,n,j,u,rfl,ak,T.cl,T.nG,by lia,?_⟩;have Z:=N.great hl (g+1);have k2:(upd R m (.ins n j (putF "greatest" (.int (g+1)) u))) m=some (.ins n j (putF "greatest" (.int (g+1)) u)):=g8;have ag:cd≠m:=fun w=>by rw[w,hm] at hc;cases hc
   have an:d≠m:=fun w=>by rw[w,hm] at hn;cases hn
   have ap:t≠m:=fun w=>by rw[w,hm] at ht;cases ht
   have aq:p≠cd:=fun w=>by rw[w,hc] at hp;cases hp
   have am:t≠cd:=fun w=>by rw[w,hc] at ht;cases ht
   have ac:(upd R m (.ins n j (putF "greatest" (.int (g+1)) u))) cd=some (.dK e):=by rw[f6 ag];exact D _ _ hc
   have ae:(upd R m (.ins n j (putF "greatest" (.int (g+1)) u))) d=some (.dK kvs):=by rw[f6 an];exact D _ _ hn
   have ai:(upd R m (.ins n j (putF "greatest" (.int (g+1)) u))) p=some (.ins M dx fs):=by rw[f6 (AO ao)];exact D _ _ hp
   have ah:(upd R m (.ins n j (putF "greatest" (.int (g+1)) u))) t=some (.tup [.str "new",.str x,.str y,.str z]):=by rw[f6 ap];exact D _ _ ht
   generalize upd R m (.ins n j (putF "greatest" (.int (g+1)) u))=s at k2 ac ae ai ah q1 |-;refine⟨_,rfl,_,rfl,m,n,j,_,_,rfl,k2,T.cl,T.nC,Z.cells,_,rfl,m,n,j,_,_,rfl,k2,T.cl,T.nG,Z.greatest,cd,_,rfl,DPut.k (k:=Sum.inl (g+1)) ac (j9 (by lia)),?_⟩;have k3:(upd s cd (.dK (putK e (Sum.inl (g+1)) (.ref c)))) m=some (.ins n j (putF "greatest" (.int (g+1)) u)):=by rw[f6 (AO ag)];exact k2
   have aa:(upd s cd (.dK (putK e (Sum.inl (g+1)) (.ref c)))) d=some (.dK kvs):=by rw[f6 ar];exact ae
   have aj:(upd s cd (.dK (putK e (Sum.inl (g+1)) (.ref c)))) p=some (.ins M dx fs):=by rw[f6 aq];exact ai
   have ab:(upd s cd (.dK (putK e (Sum.inl (g+1)) (.ref c)))) t=some (.tup [.str "new",.str x,.str y,.str z]):=by rw[f6 am];exact ah
   generalize upd s cd (.dK (putK e (Sum.inl (g+1)) (.ref c)))=H3 at k3 aa aj ab q1 |-;exact⟨_,rfl,m,n,j,_,_,rfl,k3,T.cl,T.nG,Z.greatest,_,rfl,p,M,dx,fs,_,rfl,aj,U.cl,U.nN,a.numbers,_,rfl,t,_,1,_,rfl,rfl,SqT.of ab,rfl,d,_,rfl,DPut.k (k:=Sum.inr x) aa (j9 (by lia)),q1⟩
 . refine⟨_,rfl,t,_,0,_,rfl,rfl,SqT.of ht,rfl,rfl,_,rfl,iteU ?_⟩;refine⟨_,rfl,t,_,0,_,rfl,rfl,SqT.of ht,rfl,rfl,_,rfl,iteT ?_⟩;refine⟨_,rfl,m,n,j,u,_,rfl,hm,T.cl,T.nC,N.cells,_,rfl,p,dx,fs,rfl,hp,a.meth _ (by simp),_,rfl,t,_,2,_,rfl,rfl,SqT.of ht,rfl,p,dx,pr,pt,d,fs,rc,y,rfl,hp,a,li hn S ?_⟩;have hg:=DGet.k (k:=Sum.inl i) hc;rw[L] at hg;refine⟨cd,_,rfl,hg,.inr (.inl ⟨rfl,oF,lF,cF,dF⟩),_,rfl,t,_,3,_,rfl,rfl,SqT.of ht,rfl,aF,"first","second",fld,rfl,rfl,hF _,by decide,?_⟩;rcases J with⟨h1,rfl⟩|⟨h1,rfl⟩
   . exact .inl ⟨h1,c,_,0,_,rfl,rfl,O,rfl,_,rfl,p,M,dx,fs,_,rfl,hp,U.cl,U.nN,a.numbers,_,rfl,t,_,1,_,rfl,rfl,SqT.of ht,rfl,d,_,rfl,DPut.k (k:=Sum.inr x) hn (j9 (by lia)),q⟩
   . exact .inr ⟨h1,c,_,1,_,rfl,rfl,O,rfl,_,rfl,p,M,dx,fs,_,rfl,hp,U.cl,U.nN,a.numbers,_,rfl,t,_,1,_,rfl,rfl,SqT.of ht,rfl,d,_,rfl,DPut.k (k:=Sum.inr x) hn (j9 (by lia)),q⟩
 . refine⟨_,rfl,t,_,0,_,rfl,rfl,SqT.of ht,rfl,rfl,_,rfl,iteU ?_⟩;refine⟨_,rfl,t,_,0,_,rfl,rfl,SqT.of ht,rfl,rfl,_,rfl,iteU ?_⟩;refine⟨_,rfl,t,_,0,_,rfl,rfl,SqT.of ht,rfl,rfl,_,rfl,iteT ?_⟩;refine⟨_,rfl,m,n,j,u,_,rfl,hm,T.cl,T.nC,N.cells,_,rfl,p,dx,fs,rfl,hp,a.meth _ (by simp),_,rfl,t,_,1,_,rfl,rfl,SqT.of ht,rfl,p,dx,pr,pt,d,fs,rc,y,rfl,hp,a,li hn S ?_⟩;have hg:=DGet.k (k:=Sum.inl i) hc;rw[L] at hg;refine⟨cd,_,rfl,hg,c,_,rfl,.inr O,fun l hl=>?_⟩;obtain⟨R,z0,D,k1⟩:=gs hl (.lst [v0,X]);dsimp only[gt];rw[z0];refine⟨_,rfl,p,dx,fs,rfl,D _ _ hp,a.meth _ (by simp),_,rfl,t,_,3,_,rfl,rfl,SqT.of (D _ _ ht),rfl,p,dx,pr,pt,d,fs,rc,z,rfl,D _ _ hp,a,li (D _ _ hn) Y ?_⟩;have fin:∀s,jt l R s->s l=some (.lst [w0,w1])->∀r,s r=none->Q .non (upd (upd s r (.tup [w0,w1])) cd (.dK (putK e (Sum.inl i) (.ref r)))):=fun s e2 k2 r hr=>by
    refine q r _ (fun b o hb=>?_) ?_ g8
    . have nb:b≠l:=gh hb hl;have:=e2 _ _ (D _ _ hb) nb;rw[f6 (gh this hr)];exact this
    . cases hh:H r with
      | none=>rfl
      | some o =>
       have:=e2 _ _ (D _ _ hh) (gh hh hl);rw[hr] at this;cases this
   have tail:∀s,jt l R s->s l=some (.lst [w0,w1])->a51 (tFld K (tVar 0) "cells") (ph M "number" (vg M) [] E0 (tVar 1) (iz (tOp (rIxT K) (tVar 2) (tC (.int 1))) tNil)) (tCB (fun xs H Q=>∃p ys,xs=[V.ref p]/\((SqL K H p ys/\∀l,H l=none->Q (.ref l) (upd H l (.tup ys)))\/(SqT K H p ys/\Q (.ref p) H))) (iz (tVar 3) tNil)) {nx:=fun x H'=>Q V.non H',rt:=Q} [rQ m,rQ p,rQ t,rQ l] s:=fun s e2 k2=>by
    refine⟨_,rfl,l,_,rfl,.inl ⟨SqL.of k2,fun r hr=>?_⟩⟩;have f:=fin s e2 k2 r hr;have e3:∀{b:KA} {o:HO},H b=some o->(upd s r (.tup [w0,w1])) b=some o:=fun {b o} hb=>by
     have:=e2 _ _ (D _ _ hb) (gh hb hl);rw[f6 (gh this hr)];exact this
    exact⟨_,rfl,m,n,j,u,_,rfl,e3 hm,T.cl,T.nC,N.cells,_,rfl,p,dx,fs,rfl,e3 hp,a.meth _ (by simp),_,rfl,t,_,1,_,rfl,rfl,SqT.of (e3 ht),rfl,p,dx,pr,pt,d,fs,rc,y,rfl,e3 hp,a,li (e3 hn) S ⟨cd,_,rfl,DPut.k (k:=Sum.inl i) (e3 hc) (j9 (by lia)),f⟩⟩
   refine⟨_,rfl,.inr (.inl ⟨rfl,oF,lF,cF,dF⟩),_,rfl,t,_,2,_,rfl,rfl,SqT.of (D _ _ ht),rfl,aF,"first","second",fld,rfl,rfl,hF _,by decide,?_⟩;rcases J with⟨h1,rfl,rfl⟩|⟨h1,rfl,rfl⟩
   . exact .inl ⟨h1,l,_,0,0,rfl,rfl,k1,rfl,tail _ (fun b o hb nb=>by rw[f6 nb];exact hb) g8⟩
   . exact .inr ⟨h1,l,_,1,1,rfl,rfl,k1,rfl,tail _ (fun b o hb nb=>by rw[f6 nb];exact hb) g8⟩
structure MNew(K:Ab)(CM CF:KA)(bs:List Nat)(G H:Hp)(m dx:KA)(pcs:List Prc)(pc:Prc)(j:Nat)(kvs cvs:List (Key×V))(due:Pre×Nat)(ns:List Int)(G1:Hp)(pd fl p dxp q1 nd cd pr bd:KA)(prs:List KA)(fsm fs:List (Str×V))(zs:List Str)(g:Int):Prop where
 g1:Same G G1
 gH:Same G1 H
 n1:G1 m=none
 n2:G1 p=none
 n3:G1 nd=none
 n4:G1 cd=none
 n5:G1 fl=none
 nc:nd≠cd
 mp:m≠p
 hps:KI (PrcAt K G1 bs) prs pcs
 hpr:prs[j]?=some pr
 hpd:G1 pd=some (.dK ((byK (pcs.map (·.name)) prs).map kk))
 hbd:∃v0 v1 v2 v3 v4,G1 pr=some (.tup [v0,v1,v2,v3,v4,.ref bd])
 body:ListX K G1 bs bd pc.body
 hm:H m=some (.ins CM dx fsm)
 mf:MFs fsm pd fl cd g false
 lm:fsm.length<=5
 hfl:H fl=some (.lst [.ref p])
 hp:H p=some (.ins CF dxp fs)
 ff:FFs fs pr q1 nd ""
 lf:fs.length<=4
 hq1:SqT K H q1 ((flat due.1++[(due.2:Int)]).map V.int)
 hnd:H nd=some (.dK ((lv kvs zs).map kk))
 zn:zs.Nodup
 zm:∀y,y∈zs↔i8 y=true/\y∈allW bs pc
 hcd:H cd=some (.dK cvs)
 g0:ns=[]->g=0
 gm:ns≠[]->g∈ns/\∀n∈ns,n<=g
theorem aae:("procedures":Str)≠"frames" /\ ("procedures":Str)≠"cells" /\ ("procedures":Str)≠"greatest" /\ ("procedures":Str)≠"fallen" /\ ("frames":Str)≠"cells" /\ ("frames":Str)≠"greatest" /\ ("frames":Str)≠"fallen" /\ ("cells":Str)≠"greatest" /\ ("cells":Str)≠"fallen" /\ ("greatest":Str)≠"fallen" := by decide
theorem aco:∀m∈mj,m≠("procedures":Str)/\m≠("frames":Str)/\m≠("cells":Str)/\m≠("greatest":Str)/\m≠("fallen":Str):=by decide
noncomputable def mf1(pd:KA):List (Str×V):=putF "procedures" (.ref pd) []
noncomputable def mf2(pd fl:KA):List (Str×V):=putF "frames" (.ref fl) (mf1 pd)
noncomputable def mf3(pd fl cd:KA):List (Str×V):=putF "cells" (.ref cd) (mf2 pd fl)
noncomputable def mf4(pd fl cd:KA)(g:Int):List (Str×V):=putF "greatest" (.int g) (mf3 pd fl cd)
noncomputable def mf5(pd fl cd:KA)(g:Int):List (Str×V):=putF "fallen" (.bl false) (mf4 pd fl cd g)
theorem tu(a b cd:KA)(g:Int):(mf1 a).length<=1/\(mf2 a b).length<=2/\(mf3 a b cd).length<=3/\(mf4 a b cd g).length<=4/\(mf5 a b cd g).length<=5:=by grind [mf1,mf2,mf3,mf4,mf5,jf]
theorem afl(b c cd:KA)(g:Int):MFs (mf5 b c cd g) b c cd g false:=by
 obtain⟨n1,n2,n3,n4,n5,i,l,d,f,a⟩:=aae;refine⟨?_,?_,?_,?_,?_,by have:=tu b c cd g;lia,fun m hm=>?_⟩
 . unfold mf5 mf4 mf3 mf2 mf1;rw[gn,if_neg n4,gn,if_neg n3,gn,if_neg n2,gn,if_neg n1,gn,if_pos rfl]
 . unfold mf5 mf4 mf3 mf2;rw[gn,if_neg l,gn,if_neg i,gn,if_neg n5,gn,if_pos rfl]
 . unfold mf5 mf4 mf3;rw[gn,if_neg f,gn,if_neg d,gn,if_pos rfl]
 . unfold mf5 mf4;rw[gn,if_neg a,gn,if_pos rfl]
 . unfold mf5;rw[gn,if_pos rfl]
 . obtain⟨m1,m2,e,j,h⟩:=aco m hm;unfold mf5 mf4 mf3 mf2 mf1;rw[gn,if_neg h,gn,if_neg j,gn,if_neg e,gn,if_neg m2,gn,if_neg m1];rfl
theorem a25:∀{ns:List Str}{ts:List KA}{j:Nat}{n:Str}{t:KA},ns.Nodup->ns[j]?=some n->ts[j]?=some t->valV ((byK ns ts).map kk) (Sum.inr n)=some (.ref t)
 | [],_,_,_,_,_,h,_=>by simp at h
 | _::_,[],_,_,_,_,_,h=>by simp at h
 | m::ns,u::ts,0,n,t,hn,h1,h2=>by
  simp at h1 h2;subst h1;subst h2;unfold valV byK;simp[kk]
 | m::ns,u::ts,j+1,n,t,hn,h1,h2=>by
  have a:ns[j]?=some n:=by simpa using h1
  have b:ts[j]?=some t:=by simpa using h2
  have ne:m≠n:=fun z=>(Bc.mp hn).1 (by rw[z];exact AE a);have c:=a25 (Bc.mp hn).2 a b;unfold valV byK at c |-;simp only[CN,As,BJ,kk];rw[decide_eq_false (fun z=>ne (EL z))];exact c
theorem scMInit:FnScope ["self","program","name","path","values","heap"] ["self","program","name","path","values","heap"] (iw a30):=⟨rfl,rfl,rfl,by decide,rfl,by decide,by decide⟩
abbrev ab4:KN:=top 32
abbrev sFed:KN:=top 33
abbrev a7s:KN:=top 34
abbrev a3s:KN:=top 35
noncomputable def we(c:Int)(k:Nat):Int:=(c % 2147483629*48271+69621*(k:Int)+11) % 2147483587
noncomputable def xi(c:Int)(k:Nat):Int:=we c k*(we c k / 7+39373) % 2147483563
noncomputable def abg(c:Int)(k:Nat):Int:=xi c k*(xi c k / 5+16807+(k:Int)) % 2147483399
noncomputable def abq(c:Int)(k:Nat):Int:=(we c k*2147483563+xi c k)*2147483399+abg c k
noncomputable def a5z:Sp:=fun vs H Q _=>∃(c:Int) (k:Nat),vs=[.int c,.int (k:Int)]/\Q (.int (abq c k)) H
noncomputable def fedF(c:Int)(k:Nat):Int:=if c % 2=1 then abq (c / 2) k else c / 2
noncomputable def yw:Sp:=fun vs H Q _=>∃(c:Int) (k:Nat),vs=[.int c,.int (k:Int)]/\∀l,H l=none->Q (.ref l) (upd H l (.lst [.int (fedF c k)]))
noncomputable def nh:Sp:=fun vs H Q _=>∃(l:KA) (n:Int) (m:Int),vs=[.ref l,.int m]/\H l=some (.lst [.int n])/\0<m/\m<=10 ^ 60/\Q (.int (n % m)) (upd H l (.lst [.int (n / m)]))
theorem ad1(C:Con K mg w)(F:GF K "_law_rich" ab4):FC K mg w 1 "_law_rich" a5z:=by
 refine F.ok C.gf 2 ["_law_cell","_law_k","_law_one","_law_two","_law_three"] fun H vs Q E hr h nd=>?_;obtain⟨c,k,rfl,q⟩:=h;refine⟨_,gc (gu 2 nd (gp ji (gp ir (gp ir (gp ri (gp ji (qv 0) dn) dn) (gp ri dn (qv 1))) dn) dn))
  (gc (gu 3 nd (gp ji (gp ri (qv 2) (gp ir (gp kg (qv 2) dn) dn)) dn))
  (gc (gu 4 nd (gp ji (gp ri (qv 3) (gp ir (gp ir (gp kg (qv 3) dn) dn) (qv 1))) dn))
  (gi (gz (gp ir (gp ri (gp ir (gp ri (qv 2) dn) (qv 3)) dn) (qv 4)))))),?_⟩
 have m1:0<=we c k:=BD _ (show (2147483587:Int)≠0 by decide);have m2:we c k<2147483587:=B7 _ (show (0:Int)<2147483587 by decide);have b:0<=xi c k:=BD _ (show (2147483563:Int)≠0 by decide);have e:xi c k<2147483563:=B7 _ (show (0:Int)<2147483563 by decide);refine⟨_,rfl,_,_,rfl,rfl,(show (0:Int)<2147483629 by decide),_,_,rfl,rfl,.inr ⟨by decide,by decide⟩,_,rfl,_,_,rfl,rfl,.inl ⟨by decide,by decide⟩,_,_,rfl,rfl,_,_,rfl,rfl,_,_,rfl,rfl,(show (0:Int)<2147483587 by decide),?_⟩;change gt 2 (.int (we c k)) _ _ _;refine⟨_,rfl,_,rfl,_,_,rfl,rfl,(show CDiv _ 7 from⟨by decide,by decide⟩),_,_,rfl,rfl,_,_,rfl,rfl,.inl ⟨by lia,by lia⟩,_,_,rfl,rfl,(show (0:Int)<2147483563 by decide),?_⟩;change gt 3 (.int (xi c k)) _ _ _;refine⟨_,rfl,_,rfl,_,_,rfl,rfl,(show CDiv _ 5 from⟨by decide,by decide⟩),_,_,rfl,rfl,_,rfl,_,_,rfl,rfl,_,_,rfl,rfl,.inl ⟨by lia,by lia⟩,_,_,rfl,rfl,(show (0:Int)<2147483399 by decide),?_⟩;change gt 4 (.int (abg c k)) _ _ _;exact⟨_,rfl,_,_,rfl,rfl,.inr ⟨by decide,by decide⟩,_,rfl,_,_,rfl,rfl,_,_,rfl,rfl,.inr ⟨by decide,by decide⟩,_,rfl,_,_,rfl,rfl,q⟩
theorem adz(C:Con K mg w)(F:GF K "_law_fed" sFed)(d:FC K mg w 1 "_law_rich" a5z):FC K mg w 2 "_law_fed" yw:=by
 refine F.ok C.gf 2 ["_law_cell","_law_k"] fun H vs Q E hr h nd=>?_;obtain⟨c,k,rfl,q⟩:=h;refine⟨_,gc (ij (i6 ig (gp ji (qv 0) dn) dn) (gi (gz (i9 (gw (gr d hr (jb (gp kg (qv 0) dn) (gj (qv 1) ad))) ad)))) iq)
  (gi (gz (i9 (jb (gp kg (qv 0) dn) ad)))),?_⟩
 refine⟨_,rfl,_,_,rfl,rfl,(show (0:Int)<2 by decide),rfl,_,rfl,iteB (fun hc=>?_) (fun hc=>?_)⟩
 . have a:c % 2=1:=V.int.inj (of_decide_eq_true hc);unfold fedF at q;rw[if_pos a] at q;exact⟨_,rfl,_,_,rfl,rfl,(show CDiv _ 2 from⟨by decide,by decide⟩),_,rfl,c / 2,k,rfl,(szLn 1),q⟩
 . have a:¬ c % 2=1:=fun z=>by rw[decide_eq_true (congrArg V.int z)] at hc;cases hc
   unfold fedF at q;rw[if_neg a] at q;exact⟨_,rfl,_,_,rfl,rfl,(show CDiv _ 2 from⟨by decide,by decide⟩),(szLn 1),q⟩
theorem aa6(C:Con K mg w)(F:GF K "_law_digit" a7s):FC K mg w 1 "_law_digit" nh:=by
 refine F.ok C.gf 2 ["_law_digits","_law_many","_law_found"] fun H vs Q E hr h nd=>?_;obtain⟨g,n,m,rfl,a,hm,b,q⟩:=h;refine⟨_,gc (gu 2 nd (gp ji (sv (qv 0) dn) (qv 1)))
  (gc (pq (gp aaa (sv (qv 0) dn) (qv 1)) (yy (qv 0) dn v6))
  (gi (gz (qv 2)))),?_⟩
 refine⟨_,rfl,g,_,0,.int n,rfl,rfl,SqL.of a,rfl,_,rfl,_,_,rfl,rfl,hm,?_⟩;refine⟨_,rfl,g,_,0,.int n,rfl,rfl,SqL.of a,rfl,_,rfl,_,_,rfl,rfl,⟨hm,b⟩,?_⟩;exact⟨_,rfl,g,[.int n],0,0,rfl,rfl,a,rfl,_,rfl,q⟩
noncomputable def signsT:Str := "abcdefghijklmnopqrstuvwxyz0123456789"
noncomputable def sgs:List Nat:=signsT.cps.toList
noncomputable def lts:List Nat:=sgs.take 26
theorem ni:signsT.length<=KF:=by decide
theorem wr:sgs.length=36:=by decide
structure PreOk(pre:List Nat):Prop where
 len:pre.length<=7
 sg:∀c∈pre,c∈sgs
 hd:∀c r,pre=c::r->c∈lts
theorem a8b:∀c∈sgs,ki c=true:=by decide
theorem a7d:∀c∈lts,sd [c]=true:=by decide
theorem a3b(c:Nat)(r:List Nat):sd (c::r)=sd [c]:=rfl
noncomputable def sg(t:Nat):Nat:=sgs.getD t 0
noncomputable def je(pre:List Nat):Nat:=if pre=[] then 26 else 36
noncomputable def wd(pre:List Nat)(t:Nat):Str:=⟨(pre++[sg t]).toArray⟩
theorem a2j(h:t<36):sg t∈sgs:=by
 unfold sg;rw[Cq,Af (by rw[wr];exact h)];exact CB _
theorem uy(h:t<36):sgs[t]?=some (sg t):=by
 unfold sg;rw[Cq,Af (by rw[wr];exact h)];rfl
theorem a17(h:t<26):sg t∈lts:=by
 have a:lts[t]?=some (sg t):=by show (sgs.take 26)[t]?=_;rw[Dh h];exact uy (by lia)
 exact AE a
theorem wn:∀t,t<36->JV signsT ⟨#[sg t]⟩=(t:Int):=by decide
theorem ae4:sgs.Nodup:=by decide
theorem afa(ha:a<36)(hb:b<36)(h:sg a=sg b):a=b:=by
 have c:=uy ha;have d:=uy hb;rw[h] at c;exact (Jk (by rw[wr];exact ha) ae4).mp (c.trans d.symm)
theorem a8f(h:c∈sgs):∃t,t<36/\c=sg t:=by
 obtain⟨t,ht,rfl⟩:=Fp h;have a:t<36:=by rw[<- wr];exact ht
 refine⟨t,a,?_⟩;have:=uy a;rw[Af ht] at this;exact Au this
theorem aer(h:c∈lts):∃t,t<26/\c=sg t:=by
 obtain⟨t,ht,rfl⟩:=Fp h;have hl:lts.length=26:=by decide
 have a:t<26:=by rw[<- hl];exact ht
 refine⟨t,a,?_⟩;have b:lts[t]?=some (sg t):=by show (sgs.take 26)[t]?=_;rw[Dh a];exact uy (by lia)
 rw[Af ht] at b;exact Au b
theorem ad7(hp:PreOk pre)(ht:t<je pre)(hn:¬ wd pre t∈Mir.noNames):i8 (wd pre t)=true:=by
 have a:t<36:=by unfold je at ht;split at ht<;>lia
 unfold i8;have hl:(wd pre t).length=pre.length+1:=by show (pre++[sg t]).toArray.size=_;simp
 have b:=hp.len;rw[if_neg ?_]
 . rw[BR];constructor
   . show sd (pre++[sg t])=true;cases hpre:pre with
     | nil=>exact a7d _ (a17 (by unfold je at ht;rw[if_pos hpre] at ht;exact ht))
     | cons d r=>rw[List.cons_append,a3b];exact a7d d (hp.hd d r hpre)
   . show (pre++[sg t]).all ki=true;refine List.all_eq_true.mpr fun d hd=>?_;rcases Aq.mp hd with z|z
     . exact a8b d (hp.sg d z)
     . rw[Ap.mp z];exact a8b _ (a2j a)
 . rintro (z|z|z)
   . have:=congrArg Ga z;rw[hl] at this;have h0:("":Str).length=0:=by decide
     lia
   . lia
   . exact hn z
theorem afk(ha:a<36)(hb:b<36)(h:wd pre a=wd pre b):a=b:=by
 have c:=congrArg (fun s:Str=>s.cps.toList) h;have d:pre++[sg a]=pre++[sg b]:=c;exact afa ha hb (by simpa using d)
theorem a5i{f:List Str}(hm:c<=36)(h0:0<c)(hb:f.length<c):¬ ∀j,j<c->wd pre ((d+j) % c)∈f:=by
 intro h;have q:((Cb c).map fun j=>wd pre j).Nodup:=by
  refine List.pairwise_map.mpr ((List.nodup_range (n:=c)).imp_of_mem fun {a b} ha g l e=>l (afk ?_ ?_ e))
  . have:=Dc.mp ha;lia
  . have:=Dc.mp g;lia
 have m:=AV q (l₂:=f) fun x p=>by
  obtain⟨t,ht,rfl⟩:=AA.mp p;have i:=Dc.mp ht;have hi:=Ff d h0;have:=h ((t+(c-d % c)) % c) (Ff _ h0);have e:(d+(t+(c-d % c)) % c) % c=t:=by
   rw[Nat.add_mod,Nat.mod_mod,<- Nat.add_mod];have r:d=c*(d / c)+d % c:=(Nat.div_add_mod d c).symm;have o:d+(t+(c-d % c))=t+c*(d / c+1):=by rw[Nat.mul_add,Nat.mul_one];lia
   rw[o,Nat.add_mul_mod_self_left,Jy i]
  rw[e] at this;exact this
 rw[Ad,EE] at m
 lia
theorem ae3(pre:List Nat)(t u:Nat):cutS (wd pre t) none (some (-1))++(⟨#[sg u]⟩:Str)=wd pre u:=by
 have hl:(wd pre t).length=pre.length+1:=by show (pre++[sg t]).toArray.size=_;simp
 have g:(cutS (wd pre t) none (some (-1))).cps=pre.toArray:=by
  show (List.take (HT.sIx (wd pre t).length (wd pre t).length (some (-1))-HT.sIx (wd pre t).length 0 none) (List.drop (HT.sIx (wd pre t).length 0 none) (pre++[sg t]))).toArray=_;have h:HT.sIx (wd pre t).length (wd pre t).length (some (-1))=pre.length:=by
   unfold HT.sIx;simp only[hl];rw[if_pos (by decide)]
   lia
  have d:HT.sIx (wd pre t).length 0 none=0:=rfl;rw[h,d,De,Fh,List.take_left'];rfl
 have c:(cutS (wd pre t) none (some (-1))++(⟨#[sg u]⟩:Str)).cps=(cutS (wd pre t) none (some (-1))).cps ++ #[sg u]:=Ic _ _;have f:∀a b:Str,a.cps=b.cps->a=b:=fun a b e=>by cases a;cases b;cases e;rfl
 refine f _ _ ?_;rw[c,g];show pre.toArray ++ #[sg u]=(pre++[sg u]).toArray;simp
theorem ag4{a:List Str}(hi:σ[i]?=some (some (.str x)))(g:σ[j]?=some (some (.ref l)))(d:σ[k]?=some (some (.ref m)))(f:H l=some (.lst (ns.map V.str)))(b:H m=some (.lst (a.map V.str)))(q:Q (decide (x∈ns++a)) H):
 tOr (t9 (tOp (rIn K false) (tVar i) (tVar j))) (t9 (tOp (rIn K false) (tVar i) (tVar k))) σ H Q:=by
 refine⟨_,hi,_,g,l,_,rfl,.inl (SqL.of f),rfl,pw _,_,rfl,?_⟩;rw[if_neg Ak,oo];refine iteB (fun c=>?_) (fun c=>⟨_,hi,_,d,m,_,rfl,.inl (SqL.of b),rfl,pw _,_,rfl,?_⟩)
 . rw[decide_eq_true (AD _ (of_decide_eq_true c))] at q;exact q
 . rw[if_neg Ak,oo];have e:decide (x∈ns++a)=decide (x∈a):=by
    rw[Ck,decide_eq_true_eq,decide_eq_true_eq,Aq];exact⟨fun z=>z.elim (fun y=>absurd y (of_decide_eq_false c)) id,.inr⟩
   rw[e] at q;exact q
inductive spUnlike(K:Ab)(vs:List V)(H:Hp)(Q:VK)(E:XK):Prop
 | mk (pre:List Nat)(t:Nat)(l:KA)(ns:List Str)(h0:vs=[.str (wd pre t),.ref l])(hp:PreOk pre)(ht:t<je pre)(hl:H l=some (.lst (ns.map V.str)))(hn:ns.length<=12)(q:∀x H',Same H H'->¬ x∈ns->i8 x=true->Q (.str x) H'):spUnlike K vs H Q E
theorem a68(C:Con K mg w)(F:GF K "_law_unlike" a3s):FC K mg w 1 "_law_unlike" (spUnlike K):=by
 refine F.ok C.gf 2 ["_law_name","_law_names_here","_law_signs","_law_odd","_law_many"] fun H vs Q E hr h nd=>?_;obtain⟨pre,t,l,ns,rfl,hp,ht,hl,hn,q⟩:=h;refine⟨_,gc (gu 2 nd i7)
  (gc (gu 3 nd (i9 (ie (ie (ie (ie (ie (ie (ie (ie (ie (ie ad))))))))))))
  (gc (gu 4 nd (sv (i9 (i0 (i0 ad))) (ii mu rfl C.int CU (jk (nj ig (lx vo rfl C.len CD (gj (qv 0) ad)) dn (ly _)) ad))))
  (gc (ou AN (QW.qt (a4p (tm sn (qv 0) (qv 1) (by with_unfolding_all rfl)) (a1x (tm sn (qv 0) (qv 3) (by with_unfolding_all rfl))))) (gi (gu 0 nd (gp oh (ja a1w (qv 0) jp (j8 (jx jm dn))) (mq nz (qv 2) (gp ji (gp ir (jr (K:=K) rfl HG HH HI (xo rfl) (qv 2) (gq (mq nz (qv 0) (jx jm dn) (fun _ _=>rfl)) ad)) dn) (qv 4)) (fun _ _=>rfl))))))
  (gi (gz (qv 0)))))),?_⟩
 refine⟨(by decide),fun n L=>?_⟩;have y:=gk L (.lst (Mir.noNames.map V.str));have k1:(upd H n (.lst (Mir.noNames.map V.str))) n=some (.lst (Mir.noNames.map V.str)):=g8;change tSeq _ _ _ _ (upd H n (.lst (Mir.noNames.map V.str)));generalize upd H n (.lst (Mir.noNames.map V.str))=O at y k1 |-;have s:(wd pre t).length=pre.length+1:=by show (pre++[sg t]).toArray.size=_;simp
 have Y:=hp.len;have o:je pre<=36/\26<=je pre:=by unfold je;split<;>lia
 refine⟨(by decide),fun l1 I=>?_⟩;obtain⟨X,z0,p,k2⟩:=gs I (.lst [V.int 36,V.int 26]);rw[z0];refine⟨_,rfl,wd pre t,rfl,io (by lia),rfl,_,rfl,l1,_,_,.int (je pre),rfl,rfl,SqL.of k2,?_,?_⟩
 . rw[s];unfold je;by_cases hpr:pre=[]
   . rw[if_pos hpr,hpr];rfl
   . have:pre.length≠0:=fun z=>hpr (B8 z);rw[if_neg hpr,if_neg (by intro z;have:=V.int.inj (of_decide_eq_true z);lia)];rfl
 dsimp only[gt];have r:=(y.trans p) _ _ hl;have J:(ns++Mir.noNames).length<je pre:=by rw[Ai,show Mir.noNames.length=10 by decide];lia
 refine⟨fun m σ H'=>H'=X/\∃j,m=je pre-j/\(∀i,i<j->wd pre ((t+i) % je pre)∈ns++Mir.noNames)/\σ=[some (.str (wd pre ((t+j) % je pre))),some (.ref l),some (.str signsT),some (.ref n),some (.int (je pre))],⟨_,rfl,0,rfl,fun i hi=>absurd hi (JH _),?_⟩,?_⟩
 . rw[JW,Jy ht];rfl
 rintro m σ H' ⟨rfl,j,rfl,c,rfl⟩;have hj:j<je pre:=Nat.lt_of_not_le fun z=>a5i o.1 (by lia) J fun i hi=>c i (by lia);have a:=Ff (t+j) (show 0<je pre by lia);generalize hu:(t+j) % je pre=u at a;have S:(wd pre u).length=pre.length+1:=by show (pre++[sg u]).toArray.size=_;simp
 have v:=p _ _ k1;have g:atI (wd pre u).cps.toList (-1)=some (sg u):=by show atI (pre++[sg u]) (-1)=_;exact jh
 have d:u<36:=by lia
 refine ag4 rfl rfl rfl r v ?_;refine iteB (fun hc=>?_) (fun hc=>?_)
 . have D:=of_decide_eq_true hc;refine⟨fun M N=>N=H'/\M=[some (.str (wd pre ((t+(j+1)) % je pre))),some (.ref l),some (.str signsT),some (.ref n),some (.int (je pre))],?_,?_⟩
   . rintro M N ⟨rfl,rfl⟩;refine⟨je pre-(j+1),by lia,rfl,j+1,rfl,fun i hi=>?_,rfl⟩;by_cases e:i=j
     . rw[e,hu];exact D
     . exact c i (by lia)
   . have T:=Ff (u+1) (show 0<je pre by lia);have W:(t+(j+1)) % je pre=(u+1) % je pre:=by rw[<- hu,Nat.mod_add_mod,Nat.add_assoc]
     have U:((u:Int)+1) % (je pre:Int)=(((u+1) % je pre:Nat):Int):=(Int.natCast_emod (u+1) (je pre)).symm;have G:(cutS (wd pre u) none (some (-1))).length<=8:=by
      have e:(cutS (wd pre u) none (some (-1))).length<=(wd pre u).length:=by
       show (((wd pre u).cps.toList.drop (HT.sIx (wd pre u).length 0 none)).take _).toArray.size<=(wd pre u).cps.size;rw[Ao,AQ,Bb,Bj]
       lia
      lia
     refine⟨_,rfl,_,rfl,_,rfl,wd pre u,rfl,io (by lia),_,rfl,_,rfl,rfl,_,rfl,_,rfl,wd pre u,_,sg u,rfl,rfl,io (by lia),g,signsT,⟨#[sg u]⟩,rfl,rfl,by rw[wn u d];lia,?_⟩;rw[wn u d];refine⟨_,_,rfl,rfl,_,rfl,_,_,rfl,rfl,(show (0:Int)<(je pre:Int) by lia),signsT,_,sg ((u+1) % je pre),rfl,rfl,ni,?_,_,_,rfl,rfl,io (by show _+1<=1000;lia),rfl,?_⟩
     . rw[U];exact jg (uy (by lia))
     . rw[ae3,W];rfl
 . have b:=of_decide_eq_false hc;exact⟨_,rfl,q _ _ (y.trans p) (fun z=>b (AD _ z)) (ad7 hp a fun z=>b (AG _ z))⟩
abbrev a7e:KN:=top 36
structure WOk(w:List Nat):Prop where
 len:w.length<=8
 ne:w≠[]
 sg:∀c∈w,c∈sgs
 hd:∀c r,w=c::r->c∈lts
noncomputable def toS(w:List Nat):Str:=⟨w.toArray⟩
theorem md(w:List Nat):(toS w).length=w.length:=by show w.toArray.size=_;simp
theorem WOk.wd(h:WOk w):∃pre t,toS w=wd pre t/\PreOk pre/\t<je pre:=by
 obtain⟨pre,c,rfl⟩:∃pre c,w=pre++[c]:=⟨w.dropLast,w.getLast h.ne,(DP h.ne).symm⟩
 have hc:=h.sg c (AG _ (Ap.mpr rfl));have hl:=h.len;rw[Ai,Be] at hl;have hp:PreOk pre:=⟨by lia,fun d hd=>h.sg d (AD _ hd),fun d r e=>h.hd d (r++[c]) (by rw[e];rfl)⟩
 by_cases e:pre=[]
 . subst e;obtain⟨t,ht,rfl⟩:=aer (h.hd c [] rfl);exact⟨[],t,rfl,hp,by unfold je;rw[if_pos rfl];exact ht⟩
 . obtain⟨t,ht,rfl⟩:=a8f hc;exact⟨pre,t,rfl,hp,by unfold je;rw[if_neg e];exact ht⟩
theorem WOk.one(h:c∈lts):WOk [c]:=⟨by simp,by simp,fun d hd=>by rw[Ap.mp hd];exact BS h,fun d r e=>by rw[<- (Iv e).1];exact h⟩
theorem WOk.snoc(h:WOk w)(hc:c∈sgs)(hl:w.length<=7):WOk (w++[c]):=by
 refine⟨by rw[Ai,Be];lia,by simp,fun d hd=>?_,fun d r e=>?_⟩
 . rcases Aq.mp hd with z|z
   . exact h.sg d z
   . rw[Ap.mp z];exact hc
 . cases hw:w with
   | nil=>exact absurd hw h.ne
   | cons d' r'=>rw[hw] at e;rw[<- (Iv e).1];exact h.hd d' r' hw
theorem WOk.at(h:WOk w)(hc:c∈lts)(hi:i<w.length):WOk (w.take i++[c]++w.drop (i+1)):=by
 have a:c∈sgs:=BS hc;refine⟨?_,by simp,fun d hd=>?_,fun d r e=>?_⟩
 . have:=h.len;simp only[Ai,AQ,Bb,Be];lia
 . rcases Aq.mp hd with z|z
   . rcases Aq.mp z with z|z
     . exact h.sg d (BS z)
     . rw[Ap.mp z];exact a
   . exact h.sg d (C0 z)
 . cases i with
   | zero=>simp at e;rw[<- e.1];exact hc
   | succ i =>
    cases hw:w with
    | nil=>exact absurd hw h.ne
    | cons d' r'=>rw[hw] at e;simp at e;rw[<- e.1];exact h.hd d' r' hw
theorem ye(w:List Nat)(c:Nat):toS w++(⟨#[c]⟩:Str)=toS (w++[c]):=by
 have d:∀a b:Str,a.cps=b.cps->a=b:=fun a b e=>by cases a;cases b;cases e;rfl
 refine d _ _ ?_;rw[Ic];show w.toArray ++ #[c]=(w++[c]).toArray;simp
theorem ac4(a b:List Nat):toS a++toS b=toS (a++b):=by
 have c:∀a b:Str,a.cps=b.cps->a=b:=fun a b e=>by cases a;cases b;cases e;rfl
 refine c _ _ ?_;rw[Ic];show a.toArray++b.toArray=(a++b).toArray;simp
theorem aej(w:List Nat)(i:Nat):cutS (toS w) none (some (i:Int))=toS (w.take i):=by
 unfold cutS;rw[HT.sIx_nat,show HT.sIx (toS w).length 0 none=0 from rfl,md];show toS ((w.drop 0).take _)=_;rw[De,Fh];by_cases h:i<=w.length
 . rw[CS h]
 . rw[Gs (by lia),BK,Bi (by lia)]
theorem aa5(w:List Nat)(i:Nat)(h:i<=w.length):cutS (toS w) (some (i:Int)) none=toS (w.drop i):=by
 unfold cutS;rw[HT.sIx_nat,show HT.sIx (toS w).length (toS w).length none=(toS w).length from rfl,md,CS h];show toS ((w.drop i).take _)=_;rw[Bi (by rw[Bb];lia)]
noncomputable def DI(H:Hp)(dl:KA)(H':Hp):Prop:=Same H H'/\∃n:Int,H' dl=some (.lst [.int n])
theorem DI.put(h:DI H dl H')(hd:H dl=none)(n:Int):DI H dl (upd H' dl (.lst [.int n])):=⟨fun b o z=>by rw[f6 (gh z hd)];exact h.1 _ _ z,n,g8⟩
theorem DI.same(h:DI H dl H')(e:Same H' a):DI H dl a:=⟨h.1.trans e,by obtain⟨n,hn⟩:=h.2;exact⟨n,e _ _ hn⟩⟩
theorem zw(n:Int)(h0:0<m)(hm:m<=36):∃t:Nat,(t:Int)<m/\atI signsT.cps.toList (n % m)=some (sg t):=by
 have b:=BD n (show m≠0 by lia);have a:=B7 n h0;obtain⟨t,ht⟩:∃t:Nat,n % m=(t:Int):=⟨(n % m).toNat,by lia⟩
 rw[ht] at a |-;exact⟨t,a,jg (uy (by lia))⟩
inductive spNm(vs:List V)(H:Hp)(Q:VK)(E:XK):Prop
 | mk (b p:Int)(n:Nat)(h0:vs=[.int b,.int p,.int (n:Int)])(hn:n<=8)(q:∀l xs H',Same H H'->H' l=some (.lst ((xs:List Str).map V.str))->xs.length=n->xs.Nodup->(∀x∈xs,i8 x=true)->Q (.ref l) H'):spNm vs H Q E
inductive NW(H:Hp)(dl:KA)(b p:Int)(n sz:Nat)(i:Nat)(σ:St)(H':Hp):Prop
 | mk (w:List Nat)(z7:Option V)(D:DI H dl H')(hw:WOk w)(hl:w.length=i+1)(hσ:σ=[iQ b,iQ p,iQ (n:Int),some (.str signsT),rQ dl,iQ (1+(sz:Int)),some (.str (toS w)),z7,nQ,nQ,nQ,nQ,nQ])
inductive NL(H:Hp)(dl nl:KA)(b p:Int)(n sz:Nat)(w:List Nat)(i:Nat)(σ:St)(H':Hp):Prop
 | mk (xs:List Str)(z7 z9 z10 z11 z12:Option V)(D:DI H dl H')(k:H' nl=some (.lst (xs.map V.str)))(hl:xs.length=i)(hn:xs.Nodup)(hx:∀x∈xs,i8 x=true)(hσ:σ=[iQ b,iQ p,iQ (n:Int),some (.str signsT),rQ dl,iQ (1+(sz:Int)),some (.str (toS w)),z7,rQ nl,z9,z10,z11,z12])
inductive NJ(H:Hp)(dl nl:KA)(b p:Int)(n sz:Nat)(w:List Nat)(xs:List Str)(z9 z10 z11:Option V)(i:Nat)(σ:St)(H':Hp):Prop
 | mk (v:List Nat)(z7:Option V)(D:DI H dl H')(k:H' nl=some (.lst (xs.map V.str)))(hv:WOk v)(hl:v.length=i+1)(hσ:σ=[iQ b,iQ p,iQ (n:Int),some (.str signsT),rQ dl,iQ (1+(sz:Int)),some (.str (toS w)),z7,rQ nl,z9,z10,z11,some (.str (toS v))])
theorem aaw(C:Con K mg w)(F:GF K "_law_names" a7e)(GF:FC K mg w 2 "_law_fed" yw)(S:FC K mg w 1 "_law_digit" nh)(GU:FC K mg w 1 "_law_unlike" (spUnlike K)):FC K mg w 3 "_law_names" spNm:=by
 refine F.ok C.gf 3 ["_law_base","_law_place","_law_many","_law_signs","_law_digits","_law_size","_law_word","_law_j","_law_names_here","_law_k","_law_at","_law_letter","_law_name"] fun H vs Q E hr h nd=>?_;obtain⟨b,p,n,rfl,hn,q⟩:=h;have l:=hr.mono (j:=1) (by lia);refine⟨_,gc (gu 3 nd i7)
  (gc (gu 4 nd (gr GF hr (gj (qv 0) (i0 ad))))
  (gc (gu 5 nd (gp ir dn (gr S l (gj (qv 4) (i0 ad)))))
  (gc (gu 6 nd (mq nz (qv 3) (gr S l (gj (qv 4) (i0 ad))) (fun _ _=>rfl)))
  (gc (jv AN rfl (a7a rfl C.range (i0 (gj (qv 5) ad))) (jd 7 nd) (gi (gu 6 nd (gp oh (qv 6) (mq nz (qv 3) (gr S l (gj (qv 4) (i0 ad))) (fun _ _=>rfl))))))
  (gc (gu 8 nd (i9 ad))
  (gc (jv AN rfl (kj rfl C.range (gj (qv 2) ad)) (jd 9 nd) (gc (gu 10 nd (gp ji (qv 1) (qv 5)))
  (gc (gu 11 nd (mq nz (qv 3) (gp ji (gp ir (jr (K:=K) rfl HG HH HI (xo rfl) (qv 3) (gq (mq nz (qv 6) (qv 10) (fun _ _=>rfl)) ad)) (qv 9)) dn) (fun _ _=>rfl)))
  (gc (gu 12 nd (gp oh (gp oh (ja a1w (qv 6) jp (j8 (qv 10))) (qv 11)) (ja a1w (qv 6) (j8 (gp ir (qv 10) dn)) jp)))
  (gc (ij (i6 ig (gp ji (qv 0) dn) dn) (gc (gu 12 nd (mq nz (qv 3) (gr S l (gj (qv 4) (i0 ad))) (fun _ _=>rfl)))
  (gi (jv AN rfl (kj rfl C.range (gw (gr S l (gj (qv 4) (i0 ad))) ad)) (jd 7 nd) (gi (gu 12 nd (gp oh (qv 12) (mq nz (qv 3) (gr S l (gj (qv 4) (i0 ad))) (fun _ _=>rfl)))))))) iq)
  (gi (ia (jr (K:=K) rfl AF Bg Bh jo (qv 8) (gw (gr GU l (gj (qv 12) (gj (qv 8) ad))) ad)))))))))
  (gi (gz (qv 8))))))))),?_⟩
 refine⟨_,rfl,b,3,rfl,fun dl r=>?_⟩;have D0:DI H dl (upd H dl (.lst [.int (fedF b 3)])):=⟨gk r _,_,g8⟩
 generalize upd H dl (.lst [.int (fedF b 3)])=H1 at D0 |-;obtain⟨e1,n1,k1⟩:=id D0;refine⟨_,rfl,dl,n1,8,rfl,k1,(by decide),(by decide),_,_,rfl,rfl,?_⟩;have aF:=BD n1 (show (8:Int)≠0 by decide);have ak:=B7 n1 (show (0:Int)<8 by decide);obtain⟨sz,hsz⟩:∃sz:Nat,n1 % 8=(sz:Int):=⟨(n1 % 8).toNat,by lia⟩
 rw[hsz] at ak |-;have D2:=D0.put r (n1 / 8);generalize upd H1 dl (.lst [.int (n1 / 8)])=H2 at D2 |-;obtain⟨e2,n2,k2⟩:=id D2;obtain⟨t2,aH,aa⟩:=zw n2 (m:=26) (by decide) (by decide);refine⟨_,rfl,_,rfl,dl,n2,26,rfl,k2,(by decide),(by decide),signsT,_,sg t2,rfl,rfl,ni,aa,?_⟩;have D3:=D2.put r (n2 / 26);generalize upd H2 dl (.lst [.int (n2 / 26)])=H3 at D3 |-;dsimp only[gt];refine kq fun F1 ah _ _=>?_;refine⟨_,rfl,1,1+(sz:Int),rfl,⟨by decide,by decide,by lia,by lia⟩,?_⟩;refine lq (lo:=1) (n:=(1+(sz:Int)-1).toNat) (NW H dl b p n sz) ⟨[sg t2],none,D3,WOk.one (a17 (by lia)),rfl,rfl⟩ ?_ ?_
 . rintro i σ H' hi ⟨g,T,J,hw,ar,rfl⟩;obtain⟨e4,n4,k4⟩:=id J;obtain⟨X,am,D⟩:=zw n4 (m:=36) (by decide) (by decide);refine⟨_,rfl,_,rfl,_,rfl,dl,n4,36,rfl,k4,(by decide),(by decide),signsT,_,sg X,rfl,rfl,ni,D,toS g,_,rfl,rfl,io (by rw[md];show _+1<=1000;lia),g++[sg X],some (.int (1+(i:Int))),J.put r _,hw.snoc (a2j (by lia)) (by lia),by rw[Ai,Be];lia,?_⟩;rw[ye];rfl
 rintro σ H4 ⟨g,T,J,hw,ar,rfl⟩;refine ah _ _ ?_;have aA:g.length=sz+1:=by lia
 refine⟨(by decide),fun nl G=>?_⟩;have D5:DI H dl (upd H4 nl (.lst [])):=J.same (gk G _);have k5:(upd H4 nl (.lst [])) nl=some (.lst (([]:List Str).map V.str)):=g8;have I:nl≠dl:=fun z=>by obtain⟨_,n,k⟩:=J;rw[z,k] at G;cases G
 have ay:H nl=none:=J.1.free G;dsimp only[gt];generalize upd H4 nl (.lst [])=H5 at D5 k5 |-;refine kq fun F2 au _ _=>?_;refine⟨_,rfl,_,rfl,by lia,by lia,?_⟩;refine lq (lo:=0) (n:=(n:Int).toNat) (NL H dl nl b p n sz g) ⟨[],T,none,none,none,none,D5,k5,rfl,.nil,(fun x hx=>by cases hx),rfl⟩ ?_ ?_
 . rintro i σ Z hi ⟨xs,T,z9,ao,an,ax,Y,k6,W,O,R,rfl⟩;have aB:=BD p (show (1+(sz:Int))≠0 by lia);have ab:=B7 p (show (0:Int)<1+(sz:Int) by lia);refine⟨_,rfl,_,rfl,_,_,rfl,rfl,(show (0:Int)<1+(sz:Int) by lia),?_⟩;show gt 10 (.int (p % (1+(sz:Int)))) _ _ _;obtain⟨a,ha⟩:∃a:Nat,p % (1+(sz:Int))=(a:Int):=⟨(p % (1+(sz:Int))).toNat,by lia⟩
   rw[ha] at ab |-;have N:a<g.length:=by lia
   obtain⟨u,hu,az⟩:=a8f (hw.sg _ (CB N));have ac:atI (toS g).cps.toList (a:Int)=some (sg u):=by show atI g (a:Int)=_;exact jg (by rw[Af N,az])
   obtain⟨U,aD,ag⟩:=zw ((u:Int)+(0+(i:Int))) (m:=26) (by decide) (by decide);dsimp only[gt];refine⟨_,rfl,_,rfl,rfl,_,rfl,_,rfl,toS g,_,sg u,rfl,rfl,io (by rw[md];lia),ac,signsT,⟨#[sg u]⟩,rfl,rfl,by rw[wn u hu];lia,?_⟩;rw[wn u hu];refine⟨_,rfl,_,_,rfl,rfl,_,_,rfl,rfl,(show (0:Int)<26 by decide),signsT,_,sg U,rfl,rfl,ni,ag,?_⟩;dsimp only[gt];refine⟨_,rfl,_,rfl,_,rfl,toS g,rfl,io (by rw[md];lia),?_⟩;rw[aej];refine⟨_,rfl,_,_,rfl,rfl,io (by rw[md,AQ];show _+1<=1000;lia),_,rfl,_,rfl,_,_,rfl,rfl,_,rfl,toS g,rfl,io (by rw[md];lia),?_⟩;have ea:((a:Int)+1)=((a+1:Nat):Int):=rfl;rw[ea,aa5 _ _ (by lia),ye];refine⟨_,_,rfl,rfl,io (by rw[md,md,Ai,AQ,Bb,Be];lia),?_⟩;rw[ac4];have hv:WOk (g.take a++[sg U]++g.drop (a+1)):=hw.at (a17 (by lia)) N;generalize g.take a++[sg U]++g.drop (a+1)=v at hv |-;dsimp only[gt];refine m3 fun F3 av _ _=>?_;have tail:∀(v:List Nat) (H7:Hp) (s:Option V),DI H dl H7->H7 nl=some (.lst (xs.map V.str))->WOk v->F3.nx [some (.int b),some (.int p),some (.int (n:Int)),some (.str signsT),some (.ref dl),some (.int (1+(sz:Int))),some (.str (toS g)),s,some (.ref nl),some (.int (0+(i:Int))),some (.int (a:Int)),some (.str ⟨#[sg U]⟩),some (.str (toS v))] H7:=fun v H7 s D7 k7 hv=>av _ _ (by
    obtain⟨pre,t,e,hp,ht⟩:=hv.wd;refine⟨_,rfl,.inl ⟨rfl,_,SqL.of k7⟩,_,rfl,_,rfl,.mk pre t nl xs (by rw[e];rfl) hp ht k7 (by lia) fun x H8 e8 hx hn=>?_⟩;refine⟨nl,xs.map V.str,.str x,rfl,rfl,e8 _ _ k7,j9 (by rw[Ad];lia),xs++[x],_,_,_,_,_,?_,?_,?_,?_,?_,rfl⟩
    . obtain⟨d1,m,d2⟩:=D7.same e8;refine⟨fun c o z=>?_,m,?_⟩
      . rw[f6 (gh z ay)];exact d1 _ _ z
      . rw[f6 (AO I)];exact d2
    . rw[g8,Ax];rfl
    . rw[Ai,Be,W]
    . exact ED.mpr ⟨O,E8 _ _,fun y L z hz e=>hx (by rw[<- Ap.mp hz,<- e];exact L)⟩
    . intro y L;rcases Aq.mp L with L|L
      . exact R y L
      . rw[Ap.mp L];exact hn)
   refine⟨_,rfl,_,_,rfl,rfl,(show (0:Int)<2 by decide),rfl,_,rfl,iteB (fun _=>?_) (fun _=>tail v Z T Y k6 hv)⟩;obtain⟨e6,n6,d6⟩:=id Y;obtain⟨t8,aI,af⟩:=zw n6 (m:=26) (by decide) (by decide);refine⟨_,rfl,_,rfl,dl,n6,26,rfl,d6,(by decide),(by decide),signsT,_,sg t8,rfl,rfl,ni,af,?_⟩;have D8:=Y.put r (n6 / 26);have k8:(upd Z dl (.lst [.int (n6 / 26)])) nl=some (.lst (xs.map V.str)):=by rw[f6 I];exact k6
   generalize upd Z dl (.lst [.int (n6 / 26)])=H8 at D8 k8 |-;obtain⟨e8,M,d8⟩:=id D8;have aG:=BD M (show (8:Int)≠0 by decide);have aE:=B7 M (show (0:Int)<8 by decide);dsimp only[gt];refine⟨_,rfl,dl,M,8,rfl,d8,(by decide),(by decide),_,rfl,by lia,by lia,?_⟩;have D9:=D8.put r (M / 8);have k9:(upd H8 dl (.lst [.int (M / 8)])) nl=some (.lst (xs.map V.str)):=by rw[f6 I];exact k8
   generalize upd H8 dl (.lst [.int (M / 8)])=H9 at D9 k9 |-;refine lq (lo:=0) (n:=(M % 8).toNat) (NJ H dl nl b p n sz g xs (some (.int (0+(i:Int)))) (some (.int (a:Int))) (some (.str ⟨#[sg U]⟩))) ⟨[sg t8],T,D9,k9,WOk.one (a17 (by lia)),rfl,rfl⟩ ?_ ?_
   . rintro j σ H' hj ⟨v,s,J,aw,ai,al,rfl⟩;obtain⟨e4,n4,k4⟩:=id J;obtain⟨X,am,D⟩:=zw n4 (m:=36) (by decide) (by decide);refine⟨_,rfl,_,rfl,_,rfl,dl,n4,36,rfl,k4,(by decide),(by decide),signsT,_,sg X,rfl,rfl,ni,D,toS v,_,rfl,rfl,io (by rw[md];show _+1<=1000;lia),v++[sg X],some (.int (0+(j:Int))),J.put r _,by rw[f6 I];exact aw,ai.snoc (a2j (by lia)) (by lia),by rw[Ai,Be];lia,?_⟩;rw[ye];rfl
   rintro σ aj ⟨v,s,ap,aq,ae,al,rfl⟩;exact tail v aj s ap aq ae
 rintro σ Z ⟨xs,T,z9,ao,an,ax,Y,k6,W,O,R,rfl⟩;exact au _ _ ⟨_,rfl,q nl xs Z Y.1 k6 (by lia) O R⟩
noncomputable def vK(xs:List Str)(f:Str->Int):List (Key×V):=xs.map fun x=>(Sum.inr x,.int (f x))
noncomputable def upF(f:Str->Int)(x:Str)(v:Int):Str->Int:=fun y=>if y=x then v else f y
noncomputable def hK(hp:List (Int×KA)):List (Key×V):=hp.map fun p=>(Sum.inl p.1,.ref p.2)
noncomputable def bK(xs:List Str):List (Key×V):=xs.map fun x=>(Sum.inr x,.bl true)
theorem zq:∀{xs:List Str},x∈xs->valV (vK xs f) (Sum.inr x)=some (.int (f x))
 | [],h=>by cases h
 | y::xs,h=>by
  by_cases e:y=x
  . subst e;exact qx rfl
  . rcases Ah.mp h with z|z
    . exact absurd z.symm e
    . have a:=zq (f:=f) z;unfold valV vK at a |-;rw[As,BJ];rw[decide_eq_false (fun w=>e (EL w))];exact a
theorem vj{g:Str->β}{xs:List Str}:((xs.map fun y=>((Sum.inr y:Key),g y)).any fun kv=>decide (kv.1=(Sum.inr x:Key)))=decide (x∈xs):=by
 rw[Ck,Gm,decide_eq_true_eq];constructor
 . rintro⟨kv,c,a⟩;obtain⟨y,b,rfl⟩:=AA.mp c;rw[<- EL (of_decide_eq_true a)];exact b
 . intro h;exact⟨_,AA.mpr ⟨x,h,rfl⟩,decide_eq_true rfl⟩
theorem zd(h:x∈xs):putK (vK xs f) (Sum.inr x) (.int v)=vK xs (upF f x v):=by
 unfold putK vK;rw[vj,decide_eq_true h,if_pos rfl,BA];refine BZ fun y _=>?_;show (if (Sum.inr y:Key)=Sum.inr x then _ else _)=_;unfold upF;by_cases e:y=x
 . rw[if_pos (by rw[e]),if_pos e]
 . rw[if_neg (fun z=>e (EL z)),if_neg e]
theorem ae7(h:¬ x∈xs):putK (vK xs f) (Sum.inr x) (.int v)=vK (xs++[x]) (upF f x v):=by
 unfold putK vK;rw[vj,decide_eq_false h,if_neg Ak,Ax]
 congr 1
 . refine BZ fun y a=>?_;unfold upF;rw[if_neg (fun z=>h (by rw[<- z];exact a))]
 . show _=[((Sum.inr x:Key),V.int (upF f x v x))]
   unfold upF;rw[if_pos rfl]
noncomputable def addL(L:List Str)(x:Str):List Str:=if x∈L then L else L++[x]
theorem mem_addL:y∈addL L x↔y∈L\/y=x:=by
 unfold addL;split
 . exact⟨.inl,fun h=>h.elim id fun e=>by rw[e];assumption⟩
 . rw[Aq,Ap]
theorem a7q:putK (bK xs) (Sum.inr x) (.bl true)=bK (addL xs x):=by
 unfold putK bK addL;rw[vj (g:=fun _=>V.bl true)];by_cases h:x∈xs
 . rw[decide_eq_true h,if_pos rfl,if_pos h,BA];refine BZ fun y _=>?_;show (if (Sum.inr y:Key)=Sum.inr x then _ else _)=_;by_cases e:y=x
   . rw[if_pos (by rw[e])]
   . rw[if_neg (fun z=>e (EL z))]
 . rw[decide_eq_false h,if_neg Ak,if_neg h,Ax];rfl
theorem aeu(h:¬ x∈hp.map (·.1)):putK (hK hp) (Sum.inl x) (.ref r)=hK (hp++[(x,r)]):=by simp_all [putK,hK,Key]
theorem a3i:(hK hp).map (·.1)=(hp.map (·.1)).map Sum.inl:=by simp_all [hK]
abbrev a8h:KN:=top 9
abbrev a24:KN:=jz (top 29) 7
noncomputable def rh(r:Str)(i j:Int):Bool:=decide (i=j)==decide (r="is")
inductive spHolds(K:Ab)(vs:List V)(H:Hp)(Q:VK)(E:XK):Prop
 | mk (d t:KA)(kvs:List (Key×V))(r x y:Str)(i j:Int)(h0:vs=[.ref d,.ref t])(h1:H d=some (.dK kvs))(h2:SqT K H t [.str r,.str x,.str y])(h3:numV kvs x=some (.int i))(h4:numV kvs y=some (.int j))(q:Q (.bl (rh r i j)) H):spHolds K vs H Q E
noncomputable def goP(b:Bool)(wd:Str)(p:Pre)(k:Nat):Pre×Nat:=if b=true then (p++[(k,0)],0) else if wd="if" then (p++[(k,1)],0) else (p,k+1)
inductive spBranch(K:Ab)(CF:KA)(vs:List V)(H:Hp)(Q:VK)(E:XK):Prop
 | mk (m p dx pr pt nd bd t c:KA)(fs:List (Str×V))(rc wd r x y:Str)(v0 v1 v2 v3 v4 u2 u3:V)(kvs:List (Key×V))(i j:Int)(pp:Pre)(k:Nat)(due:Pre×Nat)(e:Option KA)(h0:vs=[.ref m,.ref p,.ref t])(h1:H p=some (.ins CF dx fs))(h2:FFs fs pr pt nd rc)(h3:fs.length<50)(h4:H pr=some (.tup [v0,v1,v2,v3,v4,.ref bd]))(h5:SqT K H pt ((flat pp++[(k:Int)]).map V.int))(h6:H t=some (.tup [.str wd,.ref c,u2,u3]))(h7:SqT K H c [.str r,.str x,.str y])(h8:H nd=some (.dK kvs))(h9:numV kvs x=some (.int i))(h10:numV kvs y=some (.int j))(h11:pp.length<=30)(h12:Stands H bd (goP (rh r i j) wd pp k).1 (goP (rh r i j) wd pp k).2 due e)(q:∀q1 fs' H',Same H H'->SqT K H' q1 ((flat due.1++[(due.2:Int)]).map V.int)->FFs fs' pr q1 nd rc->fs'.length=fs.length->(∀f,f≠("path":Str)->fs'.lookup f=fs.lookup f)->Q .non (upd H' p (.ins CF dx fs'))):spBranch K CF vs H Q E
theorem a9f(C:Con K mg w)(F:GF K "holds" a8h)(c:FC K mg w 1 "number_of" spNumOf):FC K mg w 2 "holds" (spHolds K):=by
 refine F.ok C.gf 2 ["values","fact","alike"] fun H vs Q E hr h nd=>?_;obtain⟨d,t,kvs,r,x,y,i,j,rfl,e,b,l,u,q⟩:=h;have s:=l0 hr;refine⟨_,gc (gu 2 nd (nj ig (gr c hr (gj (qv 0) (gq (gx K (qv 1) dn) ad))) (gr c hr (gj (qv 0) (gq (gx K (qv 1) dn) ad))) (ly _)))
  (gi (gz (nj ig (qv 2) (nj ig (gx K (qv 1) dn) i7 (ly _)) (ly _)))),?_⟩
 refine⟨_,rfl,_,rfl,t,_,1,_,rfl,rfl,b,rfl,li e l ?_⟩;refine⟨_,rfl,_,rfl,t,_,2,_,rfl,rfl,b,rfl,li e u ?_⟩;refine⟨rfl,?_⟩;dsimp only[gt];refine⟨_,rfl,_,rfl,t,_,0,_,rfl,rfl,b,rfl,rfl,rfl,?_⟩;rw[show decide (V.bl (decide (V.int i=V.int j))=V.bl (decide (V.str r=V.str "is")))=rh r i j from ?_]
 . exact q
 unfold rh;have o:decide (V.int i=V.int j)=decide (i=j):=by by_cases z:i=j<;>simp[z]
 have g:decide (V.str r=V.str ("is":Str))=decide (r="is"):=by by_cases z:r="is" <;> simp[z]
 rw[o,g];cases decide (i=j)<;>cases decide (r="is")<;>simp
theorem a7h(C:Con K mg w)(U:TxF K mg b fJ)(F:GM K Cy "branch" "Machine.branch" a24)(GH:FC K mg w 2 "holds" (spHolds K))(X:MC K mg w b 5 "move" (u9 K b))(GB:FC K mg w 1 "behind_deed" (spBehind K)):MC K mg w Cy 6 "branch" (spBranch K b):=by
 refine F.ok id 3 ["self","frame","deed"] fun H vs Q E hr h nd=>?_;obtain⟨m,p,dx,pr,pt,g,bd,t,c,fs,rc,wd,r,x,y,v0,v1,v2,v3,v4,u2,v,kvs,i,j,pp,k,due,e,rfl,n,l,h3,h4,h5,h6,h7,h8,h9,S,ab,a,q⟩:=h;have ac:=l0 hr;have N:=hr.mono (j:=1) (by lia);have R:=hr.mono (j:=2) (by lia);refine⟨_,(gi (ij (a2z (gr GH R (jk (im K (qv 1)) (gq (gx K (qv 2) dn) ad)))) (gi (ia (kh (qv 1) U.cl X hr (jb (gp (su (K:=K) rfl) (im K (qv 1)) (j5 (i0 (i0 ad)))) ad)))) (gi (ij (i6 ig (gx K (qv 2) dn) i7) (gi (ia (kh (qv 1) U.cl X hr (jb (gp (su (K:=K) rfl) (im K (qv 1)) (j5 (i0 (i0 ad)))) ad)))) (gi (ia (kh (qv 1) U.cl X hr (gw (gr GB N (jk (im K (qv 1)) ad)) ad)))))))),?_⟩;refine⟨_,rfl,p,b,dx,fs,_,rfl,n,U.cl,U.nN,l.numbers,_,rfl,t,_,1,_,rfl,rfl,SqT.of h6,rfl,.mk g c kvs r x y i j rfl h8 h7 h9 S ?_⟩;unfold goP at a;have mv:∀s:Nat,Stands H bd (pp++[(k,s)]) 0 due e->n0 (ph b "move" (u9 K b) [] E0 (tVar 1) (iz (tOp (a62 K) (tFld K (tVar 1) "path") (tTup (iz (tC (V.int (s:Int))) (iz (tC (V.int 0)) tNil)))) tNil)) {nx:=fun x H'=>Q V.non H',rt:=Q} (L2.start ["self","frame","deed"] [V.ref m,V.ref p,V.ref t]) H:=fun s hs=>by
  refine⟨_,rfl,p,dx,fs,rfl,n,l.meth _ (by simp),_,rfl,p,b,dx,fs,_,rfl,n,U.cl,U.nA,l.path,(szLn 2),fun u hu=>?_⟩;obtain⟨T,z0,L,k1⟩:=gs hu (.tup [.int (s:Int),.int 0]);rw[z0];refine⟨pt,u,_,_,rfl,rfl,L.seqT h5,SqT.of k1,(by simp),(by simp),io (by rw[Ad,Ai,mi];simp;lia),fun v Y=>?_⟩;have s2:=gk Y (.tup ((flat pp++[(k:Int)]).map V.int++[.int (s:Int),.int 0]));have k2:(upd T v (.tup ((flat pp++[(k:Int)]).map V.int++[.int (s:Int),.int 0]))) v=some (.tup ((flat (pp++[(k,s)])++[((0:Nat):Int)]).map V.int)):=by
   rw[g8,yi];simp[flat]
  generalize upd T v (.tup ((flat pp++[(k:Int)]).map V.int++[.int (s:Int),.int 0]))=H2 at s2 k2 |-;have D:=L.trans s2;refine⟨p,dx,pr,pt,g,bd,v,fs,rc,v0,v1,v2,v3,v4,pp++[(k,s)],0,due,e,rfl,D _ _ n,l,h3,D _ _ h4,SqT.of k2,hs.same D,(by rw[Ai];simp;lia),fun O fs' H3 Z hq W hl d=>?_⟩;exact q O fs' H3 (D.trans Z) hq W hl d
 refine⟨_,rfl,iteB (fun hb=>?_) (fun hb=>?_)⟩
 . rw[if_pos hb] at a;exact mv 0 a
 . rw[if_neg (by rw[hb];simp)] at a;refine⟨_,rfl,t,_,0,_,rfl,rfl,SqT.of h6,rfl,rfl,_,rfl,iteB (fun hw=>?_) (fun hw=>?_)⟩
   . rw[if_pos (V.str.inj (of_decide_eq_true hw))] at a;exact mv 1 a
   . rw[if_neg (fun z=>of_decide_eq_false hw (by rw[z]))] at a;refine⟨_,rfl,p,dx,fs,rfl,n,l.meth _ (by simp),_,rfl,p,b,dx,fs,_,rfl,n,U.cl,U.nA,l.path,.mk pt (flat pp) (k:Int) rfl h5 (by rw[mi];lia) fun q0 T G M=>?_⟩;refine⟨p,dx,pr,pt,g,bd,q0,fs,rc,v0,v1,v2,v3,v4,pp,k+1,due,e,rfl,G _ _ n,l,h3,G _ _ h4,M,a.same G,(by lia),fun O fs' H3 Z hq W hl d=>?_⟩;exact q O fs' H3 (G.trans Z) hq W hl d
theorem ab1(h:p++[a]=q++[b]):p=q/\a=b:=by simp_all
noncomputable def nilF(f:Str->Int):Str->Int:=upF f "nil" 0
theorem a61(h:y∈zs++[("nil":Str)]):numV (vK zs F) y=some (.int (nilF F y)):=by
 unfold numV nilF upF;by_cases e:y="nil"
 . rw[if_pos e,if_pos e]
 . rw[if_neg e,if_neg e];exact zq ((Aq.mp h).elim id fun z=>absurd (Ap.mp z) e)
theorem LFrom.unapp:∀{q:Pre}{bd:KA},LFrom X bd (q++[(i,s)]) l->∃(b:KA) (ts:List KA) (t:KA),LFrom X bd q b/\X b=some (.lst (ts.map V.ref))/\ts[i]?=some t/\Side X t s l
 | [],bd,h=>by
  obtain⟨ts,t,m,f,c,d,a⟩:=h;have a:m=l:=a;subst a;exact⟨bd,ts,t,rfl,f,c,d⟩
 | (j,u)::q,bd,h=>by
  obtain⟨ts,t,m,f,c,d,a⟩:=h;obtain⟨b,e,t',g1,o,g,n⟩:=LFrom.unapp (q:=q) (bd:=m) a;exact⟨b,e,t',⟨ts,t,m,f,c,d,g1⟩,o,g,n⟩
theorem LEnd.of{b:List KA}(h0:X bd=some (.lst (b.map V.ref))):∀(n:Nat) {p:Pre}{l:KA},p.length=n->LFrom X bd p l->∃due e,LEnd X bd p l due e/\due.1.length<=p.length
 | 0,p,l,hn,h=>by
  have e:p=[]:=B8 hn;subst e;have h:bd=l:=h;subst h;exact⟨_,_,.top b h0,Aj _⟩
 | n+1,p,l,hn,h=>by
  have f:p≠[]:=fun z=>by rw[z] at hn;cases hn
  obtain⟨q,⟨i,s⟩,rfl⟩:∃(q:Pre) (x:Nat×Nat),p=q++[x]:=⟨p.dropLast,p.getLast f,(DP f).symm⟩
  rw[Ai] at hn;have hq:q.length=n:=by simpa using hn
  obtain⟨v,ts,t,g1,r,j,y⟩:=h.unapp;obtain⟨due,e,u,hl⟩:=LEnd.of h0 n hq g1;have w:=(Az.mp j).1;rcases y with⟨a,o,c,m,g⟩|⟨c,d,m,g⟩
  . by_cases z:i+1=ts.length
    . exact⟨_,_,.last q v ts i s t a o l c due e u r j m g z,by rw[Ai];lia⟩
    . exact⟨_,_,.next q v ts i s t a o l _ c due e u r j m g (Af (by lia)),by rw[Ai];exact BE _ _⟩
  . subst g;exact⟨_,_,.loop q v ts i t l c d due e u r j m,by rw[Ai];exact BE _ _⟩
theorem Stands.of{a ts:List KA}(h0:X bd=some (.lst (a.map V.ref)))(h:LFrom X bd p l)(hl:X l=some (.lst (ts.map V.ref)))(d:k<=ts.length):∃due e,Stands X bd p k due e/\due.1.length<=p.length:=by
 by_cases z:k<ts.length
 . exact⟨_,_,.own l _ ts h hl (Af z) rfl rfl,Aj _⟩
 . obtain⟨due,e,c,b⟩:=LEnd.of h0 _ rfl h;exact⟨due,e,.fin l ts c hl (by lia),b⟩
noncomputable def subD:Deed->Nat->Option (List Deed)
 | .cond _ a _,0=>some a
 | .cond _ _ b,1=>some b
 | .loop _ _ _ a,0=>some a
 | _,_=>none
noncomputable def subL:List Deed->Pre->Option (List Deed)
 | ds,[]=>some ds
 | ds,(k,s)::p=>(ds[k]?).bind fun d=>(subD d s).bind fun es=>subL es p
noncomputable def wg:Option Deed->Bool
 | some (.loop _ _ _ _)=>true
 | _=>false
theorem a0g(h:DeedX K X L t d)(hs:Side X t s m):∃es,subD d s=some es/\L m es:=by
 rcases hs with⟨i,o,c,f,j⟩|⟨c,dd,f,j⟩
 . cases h with
   | plain p g1 g2=>cases p with
    | row r =>
     have g1:X t=some (.tup (r.map V.str)):=g1;rw[f] at g1;injection g1 with g1;injection g1 with g1;cases r with
     | nil=>cases g1
     | cons a r=>cases r with
      | nil=>cases g1
      | cons b r=>cases r with
       | nil=>cases g1
       | cons d r=>simp at g1
    | call x cc vs =>
     obtain⟨v,g1,_⟩:=g1;rw[f] at g1;injection g1 with g1;injection g1 with g1;simp at g1
   | cond c' i' o' r a b g =>
    rw[f] at g;cases g;rename_i hc okr hi l;rcases j with⟨rfl,rfl⟩|⟨rfl,rfl⟩
    . exact⟨a,rfl,hi⟩
    . exact⟨b,rfl,l⟩
   | loop c' td i' fa pa r F P a g =>
    rw[f] at g;injection g with g;injection g with g;simp at g;exact absurd g.1 (by decide)
 . cases h with
   | plain p g1 g2=>cases p with
    | row r =>
     have g1:X t=some (.tup (r.map V.str)):=g1;rw[f] at g1;injection g1 with g1;injection g1 with g1;cases r with
     | nil=>cases g1
     | cons a r=>cases r with
      | nil=>cases g1
      | cons b r=>cases r with
       | nil=>cases g1
       | cons d r=>cases r with
        | nil=>cases g1
        | cons e r=>simp at g1
    | call x cc vs =>
     obtain⟨v,g1,_⟩:=g1;rw[f] at g1;injection g1 with g1;injection g1 with g1;simp at g1;exact absurd g1.1 (by decide)
   | cond c' i' o' r a b g =>
    rw[f] at g;injection g with g;injection g with g;simp at g;exact absurd g.1 (by decide)
   | loop c' td i' fa pa r F P a g =>
    rw[f] at g;cases g;rename_i hi;subst j;exact⟨a,rfl,hi⟩
theorem a7u:∀{p:Pre}{bs:List Nat}{l f:KA}{ds:List Deed},ListX K X bs l ds->LFrom X l p f->∃es a,subL ds p=some es/\ListX K X a f es
 | [],bs,l,f,ds,h,c=>by
  have c:l=f:=c;subst c;exact⟨ds,bs,rfl,h⟩
 | (k,s)::p,[],l,f,ds,h,c=>h.elim
 | (k,s)::p,b::bs,l,f,ds,h,c=>by
  obtain⟨ts,t,m,w,i,n,z⟩:=c;obtain⟨q,g1,u,_⟩:=h;have e:=om w g1;subst e;obtain⟨d,hd,o⟩:=Paired.nth u i;obtain⟨es,r,j⟩:=a0g o n;obtain⟨g,a,v,y⟩:=a7u j z;refine⟨g,a,?_,y⟩;unfold subL;rw[hd];show (subD d s).bind (fun es=>subL es p)=_;rw[r];exact v
theorem ud{ts:List KA}(h:ListX K X bs bd ds)(g:LFrom X bd p l)(hl:X l=some (.lst (ts.map V.ref))):∃es,subL ds p=some es/\es.length=ts.length/\∀(i:Nat) (t:KA),ts[i]?=some t->∃d a,es[i]?=some d/\DeedX K X (ListX K X a) t d:=by
 obtain⟨es,a,n,c⟩:=a7u h g;cases a with
 | nil=>exact c.elim
 | cons b a =>
  obtain⟨m,g1,f,_⟩:=c;have e:=om hl g1;subst e;refine⟨es,n,(Ay f).symm,fun i t ht=>?_⟩;obtain⟨d,hd,j⟩:=Paired.nth f ht;exact⟨d,a,hd,j⟩
noncomputable def dueR(ds:List Deed):Pre->Nat->Pre×Nat
 | [],k=>([],k)
 | (i,s)::q,k=>if k<((subL ds (q.reverse++[(i,s)])).getD []).length then (q.reverse++[(i,s)],k) else dueR ds q (if wg ((subL ds q.reverse).bind (·[i]?))=true then i else i+1)
theorem a48(h:DeedX K X L t d):(∀c a m,X t=some (.tup [.str "while",c,a,.ref m])->wg (some d)=true)/\∀c a m,X t=some (.tup [.str "if",c,.ref a,.ref m])->wg (some d)=false:=by
 refine⟨fun c a m f=>?_,fun c a m f=>?_⟩
 . obtain⟨es,e,_⟩:=a0g h (.loop c a f rfl);cases h with
   | plain p g1 g2=>cases e
   | cond c' i' o' r a' b g =>
    rw[f] at g;injection g with g;injection g with g;simp at g;exact absurd g.1 (by decide)
   | loop=>rfl
 . cases h with
   | plain p g1 g2=>rfl
   | cond=>rfl
   | loop c' td i' fa pa r F P a' g =>
    rw[f] at g;injection g with g;injection g with g;simp at g;exact absurd g.1 (by decide)
theorem a1s(h:ListX K X bs bd ds):∀(q:Pre) {k:Nat}{due:Pre×Nat}{e:Option KA},Stands X bd q.reverse k due e->due=dueR ds q k
 | [],k,due,e,hs=>by
  rcases hs with⟨l,t,ts,hl,b,f,hd,z⟩|⟨l,ts,hl,b,f⟩
  . exact hd
  . obtain⟨j,g1,g,E,_⟩:=hl.zero rfl;subst g1;have e:=om b g;subst e;rw[E,f];rfl
 | (i,s)::q,k,due,e,hs=>by
  rw[Cj] at hs;unfold dueR;rcases hs with⟨l,t,ts,hl,b,f,hd,z⟩|⟨l,ts,hl,b,f⟩
  . obtain⟨es,m,w,_⟩:=ud h hl b;rw[m,if_pos (by show k<es.length;rw[w];exact (Az.mp f).1)];exact hd
  . obtain⟨es,m,w,_⟩:=ud h hl.from b;rw[m,if_neg (by show ¬ k<es.length;lia)];obtain⟨H,F,s',G,t,j,ep,p,v,u,n⟩:=hl.up (by simp);obtain⟨rfl,D⟩:=ab1 ep;cases D;obtain⟨r,f1,_,A⟩:=ud h p v;obtain⟨d,_,C,y⟩:=A _ _ u;rw[f1];show due=dueR ds q (if wg (r[i]?)=true then i else i+1);rw[C];rcases n with⟨c,a,o,g1,g⟩|⟨c,a,o,g1,g⟩
    . rw[(a48 y).2 _ _ _ g1,if_neg Ak];exact a1s h q g
    . rw[(a48 y).1 _ _ _ g1,if_pos rfl];exact a1s h q g
noncomputable def qe(F:Str->Int):List Str->Bool
 | [f,x,y]=>rh f (nilF F x) (nilF F y)
 | _=>false
noncomputable def t7(F:Str->Int)(p:Pre)(k:Nat):Deed->Pre×Nat
 | .cond r _ _=>goP (qe F r) "if" p k
 | .loop r _ _ _=>goP (qe F r) "while" p k
 | _=>(p,k+1)
theorem aby:∀{bs:List Nat}{l:KA}{ds:List Deed},ListX K X bs l ds->∃ts:List KA,X l=some (.lst (ts.map V.ref))
 | [],_,_,h=>h.elim
 | _::_,_,_,⟨ts,h,_⟩=>⟨ts,h⟩
theorem acj(h:DeedX K G L t d)(hs:subD d s=some es):∃m,Side G t s m/\L m es:=by
 cases h with
 | plain p h1 h2=>cases hs
 | cond c i o r a b h hc okr hi ho =>
  match s,hs with
  | 0,hs=>cases hs;exact⟨i,.cond i o _ h (.inl ⟨rfl,rfl⟩),hi⟩
  | 1,hs=>cases hs;exact⟨o,.cond i o _ h (.inr ⟨rfl,rfl⟩),ho⟩
 | loop c td i fa pa r F P a h hc okr htd hF hP okF okP lF lP hi =>
  match s,hs with
  | 0,hs=>cases hs;exact⟨i,.loop _ _ h rfl,hi⟩
theorem yh:∀{p:Pre}{bs:List Nat}{bd:KA}{ds:List Deed},ListX K G bs bd ds->subL ds p=some es->∃(l:KA) (ts:List KA),LFrom G bd p l/\G l=some (.lst (ts.map V.ref))/\ts.length=es.length/\p.length<bs.length
 | [],[],_,_,h,_=>h.elim
 | [],b::bs,bd,ds,h,hs=>by
  cases hs;obtain⟨ts,f,a,_⟩:=h;exact⟨bd,ts,rfl,f,Ay a,Nat.succ_pos _⟩
 | (k,s)::p,[],_,_,h,_=>h.elim
 | (k,s)::p,b::bs,bd,ds,h,hs=>by
  obtain⟨ts,f,a,_⟩:=h;unfold subL at hs;cases e1:ds[k]? with
  | none=>rw[e1] at hs;cases hs
  | some d =>
   rw[e1] at hs
   replace hs:(subD d s).bind (fun es=>subL es p)=some es:=hs
   cases e2:subD d s with
   | none=>rw[e2] at hs;cases hs
   | some es0 =>
    rw[e2] at hs;have g:=(Az.mp e1).1;have j:ts[k]?=some ts[k]!:=by
     rw[List.getElem!_eq_getElem?_getD,Af (by rw[Ay a];exact g)];rfl
    have n:=Paired.at2 a j e1;obtain⟨m,i,c⟩:=acj n e2;obtain⟨l,e,g1,r,o,q⟩:=yh (p:=p) c hs;exact⟨l,e,⟨ts,_,m,f,j,i,g1⟩,r,o,Nat.succ_lt_succ q⟩
theorem LEnd.due{X:Hp}{bd:KA}{p:Pre}{l:KA}{due:Pre×Nat}{e:Option KA}(h:LEnd X bd p l due e):∃(a:KA) (ts:List KA),LFrom X bd due.1 a/\X a=some (.lst (ts.map V.ref))/\due.2<=ts.length/\(due.1≠[]->due.2<ts.length):=by
 induction h with
 | top ts h=>exact⟨bd,ts,rfl,h,Aj _,fun z=>absurd rfl z⟩
 | last p l ts k s t i o m c due e hl h hk ht hs hn ih=>exact ih
 | next p l ts k s t i o m t' c due e hl h hk ht hs hn ih =>
  have:=(Az.mp hn).1;exact⟨l,ts,hl.from,h,BG this,fun _=>this⟩
 | loop p l ts k t m c d due e hl h hk ht ih =>
  have:=(Az.mp hk).1;exact⟨l,ts,hl.from,h,BG this,fun _=>this⟩
theorem Stands.due{X:Hp}{bd:KA}{p:Pre}{k:Nat}{due:Pre×Nat}{e:Option KA}(h:Stands X bd p k due e):∃(b:KA) (ts:List KA),LFrom X bd due.1 b/\X b=some (.lst (ts.map V.ref))/\due.2<=ts.length/\(due.1≠[]->due.2<ts.length):=by
 rcases h with⟨l,t,ts,hl,c,a,rfl,d⟩|⟨l,ts,hl,c,a⟩
 . have:=(Az.mp a).1;exact⟨l,ts,hl,c,BG this,fun _=>this⟩
 . exact hl.due
noncomputable def AtP(ds:List Deed)(pp:Pre)(k:Nat):Prop:=∃es,subL ds pp=some es/\k<=es.length/\(pp≠[]->k<es.length)
theorem za(d:ListX K G bs bd ds)(h:Stands G bd p k due e):AtP ds due.1 due.2:=by
 obtain⟨l,ts,g,b,c,i⟩:=h.due;obtain⟨es,f,a,_⟩:=ud d g b;exact⟨es,f,by rw[a];exact c,fun z=>by rw[a];exact i z⟩
theorem nq(a:ListX K G bs bd ds)(hs:subL ds p=some es)(h:k<=es.length):∃e,Stands G bd p k (dueR ds p.reverse k) e/\(dueR ds p.reverse k).1.length<=p.length:=by
 obtain⟨d,h0⟩:=aby a;obtain⟨l,ts,i,c,f,_⟩:=yh a hs;obtain⟨due,e,b,g⟩:=Stands.of h0 i c (by rw[f];exact h);have:=a1s a p.reverse (by rw[List.reverse_reverse];exact b);subst this;exact⟨e,b,g⟩
abbrev B(m:Nat):List Nat:=JJ m 30
theorem a43:∀(p:Pre) (ds es:List Deed) (i:Nat) (d:Deed),subL ds p=some es->es[i]?=some d->d∈allL (B (p.length+1)) ds
 | [],ds,es,i,d,h,hd=>by
  cases h;exact Bu.mpr ⟨d,AE hd,Ag⟩
 | (k,s)::p,ds,es,i,d,h,hd=>by
  unfold subL at h;cases h1:ds[k]? with
  | none=>rw[h1] at h;cases h
  | some d0 =>
   rw[h1] at h
   replace h:(subD d0 s).bind (fun es=>subL es p)=some es:=h
   cases h2:subD d0 s with
   | none=>rw[h2] at h;cases h
   | some es0 =>
    rw[h2] at h;have c:=a43 p es0 es i d h hd;refine Bu.mpr ⟨d0,AE h1,Al _ (Bu.mpr ⟨es0,?_,c⟩)⟩;cases d0 with
    | plain q=>cases h2
    | cond r a b =>
     match s,h2 with
     | 0,h2=>cases h2;exact Ag
     | 1,h2=>cases h2;exact Al _ Ag
    | loop r F P a =>
     match s,h2 with
     | 0,h2=>cases h2;exact Ag
theorem a0c:∀{m n:Nat}{ds:List Deed}{d:Deed},m<=n->d∈allL (B m) ds->d∈allL (B n) ds
 | 0,_,_,_,_,h=>by cases h
 | m+1,0,_,_,hn,_=>absurd hn (Nat.not_succ_le_zero _)
 | m+1,n+1,ds,d,hn,h=>by
  have h':d∈ds.flatMap (allD (allL (B m))):=h;obtain⟨c,h0,b⟩:=Bu.mp h';refine Bu.mpr ⟨c,h0,?_⟩;rcases Ah.mp b with rfl|z
  . exact Ag
  . obtain⟨es,a,hz⟩:=Bu.mp z;exact Al _ (Bu.mpr ⟨es,a,a0c (Nat.le_of_succ_le_succ hn) hz⟩)
theorem pi(h:SqT K H a xs)(k:∀o,H a=some o->(∀C d f,o≠.ins C d f)->(∀kvs,o≠.dK kvs)->(∀l,o≠.lst l)->H' a=some o):SqT K H' a xs:=by
 rcases h with (h|⟨o,h⟩)|h
 . exact .inl (.inl (k _ h (fun _ _ _ z=>by cases z) (fun _ z=>by cases z) (fun _ z=>by cases z)))
 . exact .inl (.inr ⟨o,k _ h (fun _ _ _ z=>by cases z) (fun _ z=>by cases z) (fun _ z=>by cases z)⟩)
 . exact .inr h
structure PF where
 i:Nat
 pp:Pre
 k:Nat
 F:Str->Int
 rc:Str
structure PM where
 frs:List PF
 cs:List (Int×Int×Int)
 g:Int
 fallen:Bool
noncomputable def sk(pcs:List Prc)(f:PF):List Deed:=((pcs[f.i]?).map (·.body)).getD []
noncomputable def resP(pcs:List Prc)(f:PF):Str:=((pcs[f.i]?).map (·.res)).getD ""
noncomputable def mz(pcs:List Prc)(f:PF):Option Deed:=(subL (sk pcs f) f.pp).bind (·[f.k]?)
noncomputable def qm(pcs:List Prc)(f:PF)(q:Pre×Nat):PF:={f with pp:=(dueR (sk pcs f) q.1.reverse q.2).1,k:=(dueR (sk pcs f) q.1.reverse q.2).2}
noncomputable def zj(pcs:List Prc)(a b:PF):PF:=if a.rc="" then b else {b with F:=upF b.F a.rc (a.F (resP pcs a))}
noncomputable def js(pcs:List Prc):Nat->List PF->List PF
 | n+1,a::b::r=>if (mz pcs a).isNone=true then js pcs n (zj pcs a b::r) else a::b::r
 | _,l=>l
noncomputable def putC(cs:List (Int×Int×Int))(i:Int)(v:Int×Int):List (Int×Int×Int):=if (cs.any fun c=>decide (c.1=i))=true then cs.map (fun c=>if c.1=i then (c.1,v) else c) else cs++[(i,v)]
noncomputable def getC(cs:List (Int×Int×Int))(i:Int):Option (Int×Int):=(cs.find? fun c=>decide (c.1=i)).map (·.2)
noncomputable def a1a(cs:List (Int×Int×Int))(i:Int):List (Int×Int×Int):=cs.filter fun c=>decide (c.1≠i)
noncomputable def wAt(r:List Str)(i:Nat):Str:=r.getD i ""
noncomputable def oldC(cs:List (Int×Int×Int))(i:Int):Int×Int:=(getC cs i).getD (0,0)
noncomputable def jy(r:List Str)(F:Str->Int)(cs:List (Int×Int×Int))(g:Int):(Str->Int)×List (Int×Int×Int)×Int :=
 if wAt r 0="set" then (upF F (wAt r 1) (nilF F (wAt r 2)),cs,g)
 else if wAt r 0="read" then (upF F (wAt r 1) (if wAt r 3="first" then (oldC cs (nilF F (wAt r 2))).1 else (oldC cs (nilF F (wAt r 2))).2),cs,g)
 else if wAt r 0="write" then (F,putC cs (nilF F (wAt r 1)) (if wAt r 2="first" then (nilF F (wAt r 3),(oldC cs (nilF F (wAt r 1))).2) else ((oldC cs (nilF F (wAt r 1))).1,nilF F (wAt r 3))),g)
 else if wAt r 0="new" then (upF F (wAt r 1) (g+1),putC cs (g+1) (nilF F (wAt r 2),nilF F (wAt r 3)),g+1)
 else (F,a1a cs (nilF F (wAt r 1)),g)
noncomputable def qj:Deed->Option Str
 | .plain (.row r)=>if wAt r 0="read" then some (wAt r 2) else if wAt r 0="write" then some (wAt r 1) else if wAt r 0="free" then some (wAt r 1) else none
 | _=>none
noncomputable def o6(cs:List (Int×Int×Int))(F:Str->Int)(d:Deed):Bool:=match qj d with
 | some x=>(getC cs (nilF F x)).isNone
 | none=>false
noncomputable def ux(ps ws:List Str)(F:Str->Int):Str->Int:=fun y=>((ps.zip ws).lookup y).elim 0 (nilF F)
noncomputable def idxP(pcs:List Prc)(c:Str):Nat:=pcs.findIdx fun p=>decide (p.name=c)
noncomputable def psP(pcs:List Prc)(i:Nat):List Str:=((pcs[i]?).map (·.ps)).getD []
noncomputable def doM(pcs:List Prc)(s:PM)(f:PF)(r:List PF):Deed->PM
 | .plain (.row w)=>⟨js pcs (r.length+1) ({qm pcs f (f.pp,f.k+1) with F:=(jy w f.F s.cs s.g).1}::r),(jy w f.F s.cs s.g).2.1,(jy w f.F s.cs s.g).2.2,false⟩
 | .plain (.call x c ws)=>⟨js pcs (r.length+2) (⟨idxP pcs c,[],0,ux (psP pcs (idxP pcs c)) ws f.F,x⟩::qm pcs f (f.pp,f.k+1)::r),s.cs,s.g,false⟩
 | d=>⟨js pcs (r.length+1) (qm pcs f (t7 f.F f.pp f.k d)::r),s.cs,s.g,false⟩
noncomputable def jn(pcs:List Prc)(s:PM):PM:=if s.fallen=true then s else match s.frs with
 | []=>s
 | f::r=>match mz pcs f with
  | none=>s
  | some d=>if o6 s.cs f.F d=true then {s with fallen:=true} else doM pcs s f r d
structure Fr where
 p:KA
 dx:KA
 pr:KA
 pt:KA
 nd:KA
 bd:KA
 fs:List (Str×V)
 ys:List Str
 pc:Prc
 f:PF
structure FrAt(K:Ab)(CF:KA)(X:Hp)(pcs:List Prc)(H:Hp)(a:Fr):Prop where
 xp:X a.p=none
 xn:X a.nd=none
 hp:H a.p=some (.ins CF a.dx a.fs)
 ff:FFs a.fs a.pr a.pt a.nd a.f.rc
 lf:a.fs.length<=4
 hpt:SqT K H a.pt ((flat a.f.pp++[(a.f.k:Int)]).map V.int)
 hnd:H a.nd=some (.dK (vK a.ys a.f.F))
 hpr:∃v1 v3 v4,X a.pr=some (.tup [.str a.pc.name,v1,.str a.pc.res,v3,v4,.ref a.bd])
 L:ListX K X (B 5) a.bd a.pc.body
 at_:AtP a.pc.body a.f.pp a.f.k
 hl:a.ys.length<=20
 ym:∀y,y∈a.ys↔i8 y=true/\y∈allW (B 5) a.pc
 yn:a.ys.Nodup
 hi:pcs[a.f.i]?=some a.pc
noncomputable def muM(m cd fl:KA)(frs:List Fr):List KA:=m::cd::fl::frs.flatMap fun a=>[a.p,a.nd]
structure StAt(K:Ab)(CF:KA)(X:Hp)(pcs:List Prc)(H:Hp)(fl:KA)(frs:List Fr):Prop where
 sX:Same X H
 xf:X fl=none
 hfl:H fl=some (.lst ((frs.map fun a=>V.ref a.p).reverse))
 fr:∀a∈frs,FrAt K CF X pcs H a
 np:(frs.map (·.p)).Nodup
 nn:(frs.map (·.nd)).Nodup
noncomputable def a11(a b:Fr):Prop:=a.f.rc="" \/ (a.pc.res∈a.ys/\a.f.rc∈b.ys)
noncomputable def Chain:List Fr->Prop
 | a::b::r=>a11 a b/\Chain (b::r)
 | _=>True
theorem FrAt.body(h:FrAt K b X pcs H a):sk pcs a.f=a.pc.body/\resP pcs a.f=a.pc.res:=by
 unfold sk resP;rw[h.hi];exact⟨rfl,rfl⟩
theorem FrAt.keep(h:FrAt K m X pcs H a)(e:∀b o,H b=some o->(b=a.p\/b=a.nd\/((∀C d f,o≠.ins C d f)/\(∀kvs,o≠.dK kvs)/\∀l,o≠.lst l))->H' b=some o):FrAt K m X pcs H' a :=
 ⟨h.xp,h.xn,e _ _ h.hp (.inl rfl),h.ff,h.lf,pi h.hpt fun o i c g j=>e _ _ i (.inr (.inr ⟨c,g,j⟩)),e _ _ h.hnd (.inr (.inl rfl)),h.hpr,h.L,h.at_,h.hl,h.ym,h.yn,h.hi⟩
theorem FrAt.same(h:FrAt K c X pcs H a)(e:Same H H'):FrAt K c X pcs H' a:=h.keep fun b o z _=>e _ _ z
theorem StAt.same{frs:List Fr}(h:StAt K c X pcs H b frs)(e:Same H H'):StAt K c X pcs H' b frs:=⟨h.sX.trans e,h.xf,e _ _ h.hfl,fun a ha=>(h.fr a ha).same e,h.np,h.nn⟩
theorem StAt.last{frs:List Fr}(h:StAt K c X pcs H b (a::frs)):H b=some (.lst ((frs.map fun a=>V.ref a.p).reverse++[V.ref a.p])):=by rw[h.hfl,As,Cj]
theorem FrAt.deed(h:FrAt K o X pcs H a):∃(l:KA) (ts:List KA) (es:List Deed),LFrom X a.bd a.f.pp l/\X l=some (.lst (ts.map V.ref))/\subL a.pc.body a.f.pp=some es/\ts.length=es.length/\a.f.k<=es.length/\a.f.pp.length<5/\mz pcs a.f=es[a.f.k]? /\ ∀t,ts[a.f.k]?=some t->∃d bs,es[a.f.k]?=some d/\DeedX K X (ListX K X bs) t d:=by
 obtain⟨es,b,i,_⟩:=h.at_;obtain⟨l,ts,g1,e,m,c⟩:=yh h.L b;rw[HN] at c;obtain⟨j,g,_,n⟩:=ud h.L g1 e;rw[b] at g;cases g;refine⟨l,ts,es,g1,e,b,m,i,c,?_,fun t ht=>n _ _ ht⟩;unfold mz;rw[h.body.1,b];rfl
theorem StAt.pop{frs:List Fr}(h:StAt K g X pcs H e (a::frs)):StAt K g X pcs (upd H e (.lst ((frs.map fun a=>V.ref a.p).reverse))) e frs:=by
 have ne:∀{b:KA} {o:HO},H b=some o->(∀l,o≠.lst l)->b≠e:=fun hb f z=>by rw[z,h.hfl] at hb;cases hb;exact f _ rfl
 refine⟨fun b o z=>by rw[f6 (gh z h.xf)];exact h.sX _ _ z,h.xf,g8,fun c hc=>?_,(Bc.mp h.np).2,(Bc.mp h.nn).2⟩;have d:=h.fr c (Al _ hc);refine d.keep fun b o z w=>?_;rw[f6];exact z;rcases w with rfl|rfl|w
 . exact ne z fun l y=>by rw[y,d.hp] at z;cases z
 . exact ne z fun l y=>by rw[y,d.hnd] at z;cases z
 . exact ne z w.2.2
theorem StAt.put(h:StAt K n X pcs H m (b::r)):StAt K n X pcs (upd H b.nd (.dK (vK b.ys j))) m ({b with f:={b.f with F:=j}}::r):=by
 have hb:=h.fr b Ag;have ne:∀{c:KA} {o:HO},H c=some o->(∀l,o≠.dK l)->c≠b.nd:=fun hc i z=>by rw[z,hb.hnd] at hc;cases hc;exact i _ rfl
 refine⟨fun c o z=>by rw[f6 (gh z hb.xn)];exact h.sX _ _ z,h.xf,by rw[f6 (ne h.hfl fun _ z=>by cases z)];exact h.hfl,fun c hc=>?_,h.np,h.nn⟩;rcases Ah.mp hc with rfl|hc
 . exact⟨hb.xp,hb.xn,by show (upd H b.nd _) b.p=_;rw[f6 (ne hb.hp fun _ z=>by cases z)];exact hb.hp,hb.ff,hb.lf,pi hb.hpt fun o e _ g _=>by rw[f6 (ne e g)];exact e,g8,hb.hpr,hb.L,hb.at_,hb.hl,hb.ym,hb.yn,hb.hi⟩
 . have a:=h.fr c (Al _ hc);have nn:c.nd≠b.nd:=fun z=>(Bc.mp h.nn).1 (by have y:=Cm (f:=fun x:Fr=>x.nd) hc;rw[z] at y;exact y);refine a.keep fun d o z w=>?_;rw[f6];exact z;rcases w with rfl|rfl|w
   . exact ne z fun l y=>by rw[y,a.hp] at z;cases z
   . exact nn
   . exact ne z w.2.1
theorem StAt.move{due:Pre×Nat}(h:StAt K j X pcs H m (a::r))(hq:SqT K H g ((flat due.1++[(due.2:Int)]).map V.int))(ff:FFs fs' a.pr g a.nd a.f.rc)(lf:fs'.length=a.fs.length)(e:AtP a.pc.body due.1 due.2):StAt K j X pcs (upd H a.p (.ins j a.dx fs')) m ({a with pt:=g,fs:=fs',f:={a.f with pp:=due.1,k:=due.2}}::r):=by
 have hb:=h.fr a Ag;have ne:∀{c:KA} {o:HO},H c=some o->(∀C d f,o≠.ins C d f)->c≠a.p:=fun hc n z=>by rw[z,hb.hp] at hc;cases hc;exact n _ _ _ rfl
 refine⟨fun c o z=>by rw[f6 (gh z hb.xp)];exact h.sX _ _ z,h.xf,by rw[f6 (ne h.hfl fun _ _ _ z=>by cases z)];exact h.hfl,fun c hc=>?_,h.np,h.nn⟩;rcases Ah.mp hc with rfl|hc
 . exact⟨hb.xp,hb.xn,g8,ff,by show fs'.length<=4;rw[lf];exact hb.lf,pi hq fun o i l _ _=>by rw[f6 (ne i l)];exact i,by show (upd H a.p _) a.nd=_;rw[f6 (ne hb.hnd fun _ _ _ z=>by cases z)];exact hb.hnd,hb.hpr,hb.L,e,hb.hl,hb.ym,hb.yn,hb.hi⟩
 . have b:=h.fr c (Al _ hc);have np:c.p≠a.p:=fun z=>(Bc.mp h.np).1 (by have y:=Cm (f:=fun x:Fr=>x.p) hc;rw[z] at y;exact y);refine b.keep fun d o z w=>?_;rw[f6];exact z;rcases w with rfl|rfl|w
   . exact np
   . exact ne z fun C d f y=>by rw[y,b.hnd] at z;cases z
   . exact ne z w.1
theorem StAt.push{frs:List Fr}(h:StAt K f X pcs H e frs)(hn:FrAt K f X pcs H n)(np:n.p∉frs.map (·.p))(nn:n.nd∉frs.map (·.nd)):StAt K f X pcs (upd H e (.lst ((frs.map fun a=>V.ref a.p).reverse++[V.ref n.p]))) e (n::frs):=by
 have ne:∀{b:KA} {o:HO},H b=some o->(∀l,o≠.lst l)->b≠e:=fun hb g z=>by rw[z,h.hfl] at hb;cases hb;exact g _ rfl
 have go:∀c,FrAt K f X pcs H c->FrAt K f X pcs (upd H e (.lst ((frs.map fun a=>V.ref a.p).reverse++[V.ref n.p]))) c:=fun c d=>by
  refine d.keep fun b o z w=>?_;rw[f6];exact z;rcases w with rfl|rfl|w
  . exact ne z fun l y=>by rw[y,d.hp] at z;cases z
  . exact ne z fun l y=>by rw[y,d.hnd] at z;cases z
  . exact ne z w.2.2
 refine⟨fun b o z=>by rw[f6 (gh z h.xf)];exact h.sX _ _ z,h.xf,by rw[g8,As,Cj],fun c hc=>?_,Bc.mpr ⟨np,h.np⟩,Bc.mpr ⟨nn,h.nn⟩⟩;rcases Ah.mp hc with rfl|hc
 . exact go _ hn
 . exact go c (h.fr c hc)
noncomputable def mr(a b:Fr):Fr:=if a.f.rc="" then b else {b with f:={b.f with F:=upF b.f.F a.f.rc (a.f.F a.pc.res)}}
theorem a3w(a b:Fr):(mr a b).nd=b.nd/\(mr a b).p=b.p/\(mr a b).ys=b.ys/\(mr a b).pc=b.pc/\(mr a b).f.rc=b.f.rc:=by
 unfold mr;split<;>exact⟨rfl,rfl,rfl,rfl,rfl⟩
theorem Chain.give(h:Chain (a::b::r)):Chain (mr a b::r):=by
 have d:=h.2;obtain⟨j,i,g,e,f⟩:=a3w a b;cases r with
 | nil=>trivial
 | cons c r=>exact⟨by unfold a11;rw[g,e,f];exact d.1,d.2⟩
theorem afg(h:FrAt K c X pcs H a):(mr a b).f=zj pcs a.f b.f:=by
 unfold mr zj;rw[h.body.2];split<;>rfl
noncomputable def KpS(fl:KA)(frs:List Fr)(H H':Hp):Prop:=∀b o,H b=some o->b≠fl->b∉frs.map (·.p)->b∉frs.map (·.nd)->H' b=some o
inductive spLeave(K:Ab)(CM CF:KA)(vs:List V)(H:Hp)(Q:VK)(E:XK):Prop
 | mk (X:Hp)(m dm pd fl cd:KA)(fm:List (Str×V))(g:Int)(b:Bool)(pcs:List Prc)(a:Fr)(frs:List Fr)(h0:vs=[.ref m])(hm:H m=some (.ins CM dm fm))(hM:MFs fm pd fl cd g b)(hS:StAt K CF X pcs H fl (a::frs))(hc:Chain (a::frs))(q:∀H' a' frs',StAt K CF X pcs H' fl (a'::frs')->Chain (a'::frs')->(a'::frs').map (·.f)=js pcs (frs.length+1) ((a::frs).map (·.f))->KpS fl (a::frs) H H'->H' m=some (.ins CM dm fm)->(∀c∈a'::frs',c.p∈(a::frs).map (·.p)/\c.nd∈(a::frs).map (·.nd))->Q .non H'):spLeave K CM CF vs H Q E
theorem aai(C:Con K mg w)(T:TxM K mg R fI)(U:TxF K mg D fJ)(F:GM K R "leave_ended" "Machine.leave_ended" a3x)(GD:MC K mg w D 4 "deed" (wk K D)):MC K mg w R 5 "leave_ended" (spLeave K R D):=by
 refine F.ok id 1 ["self","ended"] @fun P base f au A outer s0 H vs Q E hr h nd=>?_;obtain⟨X,m,dm,pd,u,cd,Y,g,b,pcs,W,j,rfl,am,hM,ak,ar,q⟩:=h;have ah:=l0 hr;refine⟨_,(gi (ou AN (QW.qt (q3 (i6 xj (mh K C.len (jk (im K (qv 0)) ad)) dn) (ny (i6 a2g (jq (gy K (im K (qv 0)) (jx jm dn)) U.cl GD hr) qd)))) (gc (gu 1 nd (o8 AF EX EY a1h (im K (qv 0))))
  (gi (ij (i6 uz (im K (qv 1)) i7) (gi (km ah (im K (gy K (im K (qv 0)) (jx jm dn))) (im K (qv 1)) (qr ah (im K (qv 1)) (gx K (im K (qv 1)) dn) (fun _ _=>rfl)))) iq))))),?_⟩
 refine⟨fun n σ H'=>∃(a:Fr) (frs:List Fr) (z1:Option V),n=frs.length/\σ=[some (.ref m),z1]/\StAt K D X pcs H' u (a::frs)/\Chain (a::frs)/\js pcs (frs.length+1) ((a::frs).map (·.f))=js pcs (j.length+1) ((W::j).map (·.f))/\KpS u (W::j) H H'/\H' m=some (.ins R dm Y)/\(∀c∈a::frs,c.p∈(W::j).map (·.p)/\c.nd∈(W::j).map (·.nd)),⟨j.length,W,j,none,rfl,rfl,ak,ar,rfl,fun _ _ z _ _ _=>z,am,fun c hc=>⟨Cm hc,Cm hc⟩⟩,?_⟩;rintro n σ H1 ⟨a,frs,z1,rfl,rfl,S,ch,eq,kp,hm,J⟩;have v:=S.fr a Ag;have N:∀r:List Fr,((r.map fun a=>V.ref a.p).reverse).length=r.length:=fun r=>by rw[Dm,Ad]
 refine⟨_,rfl,m,R,dm,Y,_,rfl,hm,T.cl,T.nF,hM.frames,u,_,rfl,.inl (SqL.of S.hfl),_,_,rfl,rfl,_,rfl,iteB (fun c1=>?_) (fun c1=>?_)⟩;have M:=S.last
 . rw[N] at c1;obtain⟨d,r,rfl⟩:∃d r,frs=d::r:=by
    cases frs with
    | nil=>exact absurd (of_decide_eq_true c1) (by simp)
    | cons d r=>exact⟨d,r,rfl⟩
   obtain⟨v1,v3,v4,hpr⟩:=v.hpr;obtain⟨l,ts,es,d1,d2,d3,d4,d5,d6,d7,_⟩:=v.deed;refine⟨_,rfl,m,R,dm,Y,_,rfl,hm,T.cl,T.nF,hM.frames,_,rfl,u,_,_,_,rfl,rfl,SqL.of M,jh,a.p,a.dx,a.fs,rfl,v.hp,v.ff.meth _ (by simp),a.p,a.dx,a.pr,a.pt,a.nd,a.bd,a.fs,a.f.rc,_,v1,_,v3,v4,rfl,v.hp,v.ff,S.sX _ _ hpr,a.bd,a.pt,l,a.f.pp,a.f.k,ts,rfl,v.hpt,d1.same S.sX,by lia,S.sX _ _ d2,fun t H2 ht O=>?_,fun H2 hn O=>?_⟩
   . have av:=(Az.mp ht).1;refine⟨rfl,_,rfl,iteB (fun c=>by cases c) (fun _=>?_)⟩;have aa:(mz pcs a.f).isNone≠true:=by rw[d7,Af (by lia)];exact Ak
     have e:=eq;rw[show js pcs ((d::r).length+1) ((a::d::r).map (·.f))=(a::d::r).map (·.f) from if_neg aa] at e;exact q _ a (d::r) (S.same O) ch e (fun b o z n1 n2 n3=>O _ _ (kp b o z n1 n2 n3)) (O _ _ hm) J
   . have ac:(mz pcs a.f).isNone=true:=by
      rcases JX a.f.k ts.length with z|z
      . rw[Af z] at hn;cases hn
      . rw[d7,Bx (by lia)];rfl
     have S2:=S.same O;have L:=S2.fr a Ag;have s:=O _ _ M;have Z:=O _ _ hm;refine⟨rfl,_,rfl,iteB (fun _=>?_) (fun c=>by cases c)⟩;refine⟨fun σ' H'=>∃z1,σ'=[some (.ref m),z1]/\StAt K D X pcs H' u (mr a d::r)/\KpS u (W::j) H H'/\H' m=some (.ins R dm Y),fun σ' H' hN=>?_,?_⟩
     . obtain⟨aq,rfl,S',ap,an⟩:=hN;obtain⟨g1,g2,_⟩:=a3w a d;refine⟨r.length,Ce _,mr a d,r,aq,rfl,rfl,S',ch.give,?_,ap,an,fun c hc=>?_⟩
       . rw[<- eq,show js pcs ((d::r).length+1) ((a::d::r).map (·.f))=js pcs (r.length+1) (zj pcs a.f d.f::r.map (·.f)) from if_pos ac,As,afg v]
       . rcases Ah.mp hc with rfl|hc
         . rw[g1,g2];exact J d (Al _ Ag)
         . exact J c (Al _ (Al _ hc))
     . have al:(((d::r).map fun a=>V.ref a.p).reverse++[V.ref a.p]).dropLast=((d::r).map fun a=>V.ref a.p).reverse:=Fj;have ao:(((d::r).map fun a=>V.ref a.p).reverse++[V.ref a.p])[(((d::r).map fun a=>V.ref a.p).reverse++[V.ref a.p]).length-1]?=some (V.ref a.p):=by
        rw[Ai,Be,FH];exact DQ
       refine i5 fun D1 aj _ _=>?_;refine⟨_,rfl,m,R,dm,Y,_,rfl,Z,T.cl,T.nF,hM.frames,.inl ⟨rfl,_,SqL.of s⟩,u,_,_,rfl,rfl,s,ao,?_⟩;rw[al];have S3:=S2.pop;have ab:KpS u (W::j) H (upd H2 u (.lst (((d::r).map fun a=>V.ref a.p).reverse))):=fun b o z n1 n2 n3=>by rw[f6 n1];exact O _ _ (kp b o z n1 n2 n3)
       have I:(upd H2 u (.lst (((d::r).map fun a=>V.ref a.p).reverse))) a.p=some (.ins D a.dx a.fs):=by rw[f6 (fun z=>by have y:=L.hp;rw[z,s] at y;cases y)];exact L.hp
       have ag:(upd H2 u (.lst (((d::r).map fun a=>V.ref a.p).reverse))) a.nd=some (.dK (vK a.ys a.f.F)):=by rw[f6 (fun z=>by have y:=L.hnd;rw[z,s] at y;cases y)];exact L.hnd
       have G:(upd H2 u (.lst (((d::r).map fun a=>V.ref a.p).reverse))) m=some (.ins R dm Y):=by rw[f6 (fun z=>by have y:=Z;rw[z,s] at y;cases y)];exact Z
       generalize upd H2 u (.lst (((d::r).map fun a=>V.ref a.p).reverse))=H3 at S3 ab I ag G |-;refine aj [some (.ref m),some (.ref a.p)] _ ?_;refine⟨_,rfl,a.p,D,a.dx,a.fs,_,rfl,I,U.cl,U.nR,v.ff.receiver,rfl,_,rfl,iteB (fun c=>?_) (fun c=>?_)⟩
       . have af:a.f.rc≠"" := fun z=>by rw[z] at c;exact absurd c (by decide)
         obtain⟨h1,h2⟩:=ch.1.resolve_left af;have Sb:=S3.fr d Ag;have ae:=S3.last;have gd:=DGet.k (k:=Sum.inr a.pc.res) ag;rw[zq h1] at gd;refine⟨_,rfl,a.p,D,a.dx,a.fs,_,rfl,I,U.cl,U.nN,v.ff.numbers,_,rfl,a.p,D,a.dx,a.fs,_,rfl,I,U.cl,U.nP,v.ff.procedure,a.pr,_,2,_,rfl,rfl,SqT.of (S3.sX _ _ hpr),rfl,a.nd,_,rfl,gd,?_⟩;refine⟨_,rfl,m,R,dm,Y,_,rfl,G,T.cl,T.nF,hM.frames,_,rfl,u,_,_,_,rfl,rfl,SqL.of ae,jh,d.p,D,d.dx,d.fs,_,rfl,Sb.hp,U.cl,U.nN,Sb.ff.numbers,_,rfl,a.p,D,a.dx,a.fs,_,rfl,I,U.cl,U.nR,v.ff.receiver,d.nd,_,rfl,DPut.k (k:=Sum.inr a.f.rc) Sb.hnd (j9 (by unfold vK;rw[Ad];have:=Sb.hl;lia)),?_⟩;rw[zd h2];refine⟨_,rfl,?_,fun c o z n1 n2 n3=>?_,?_⟩
         . rw[show mr a d={d with f:={d.f with F:=upF d.f.F a.f.rc (a.f.F a.pc.res)}} from if_neg af];exact S3.put
         . rw[f6 (fun e=>n3 (by rw[e];exact (J d (Al _ Ag)).2))];exact ab c o z n1 n2 n3
         . rw[f6 (fun z=>by have y:=G;rw[z,Sb.hnd] at y;cases y)];exact G
       . have ai:a.f.rc="" := by
          rw[Bool.not_eq_false'] at c;exact V.str.inj (of_decide_eq_true c)
         refine⟨_,rfl,?_,ab,G⟩;rw[show mr a d=d from if_pos ai];exact S3
 . have e1:frs=[]:=by
    cases frs with
    | nil=>rfl
    | cons d r=>rw[N] at c1;exact absurd (show ((a::d::r).length:Int)>1 by simp only[AB];lia) (of_decide_eq_false c1)
   subst e1;exact (if_neg Ak).mpr (q _ a [] S ch eq kp hm J)
end K55
namespace L2
open PyProof.Rows
theorem a6d{x:KB}(D:ZipApart z h to l j r s)(g1:IsZip u.heap z h to .none)(P:KR u.heap h (.ref l) (.ref j))(g3:KR u.heap to a b)(t1:u.heap.IsTupleIter l r k1)(t2:u.heap.IsListIter j s k2)(v1:u.heap.IsTuple r xs)(U:u.heap.IsList s ys)(hx:xs[k1]?=some x)(hy:ys[k2]?=some y)(hR:∀g,IsZip g z h to (Ko u.heap.objs.size)->KR g to x y->g.IsTupleIter l r (k1+1)->g.IsListIter j s (k2+1)->KR g u.heap.objs.size x y->
 (∀c o,c≠z->c≠to->c≠l->c≠j->u.heap.get? c=some o->g.get? c=some o)->R (some (.ref u.heap.objs.size)) {u with heap:=g}):KC (KE prog w) A (Kh (.ref z)) R E u:=by
 have ty:u.TypeIs (.ref z) "zip" := ⟨_,g1,rfl⟩
 unfold Kh;refine Aa (CV (Bn ty Cc (Bp Cc ty DW ?_ (DH _))));show KC (KE prog w) _ (field (.ref z) 2>>=_) _ _ u;refine Aa (Bo g1 rfl (x:=.bool false) rfl ?_);show KC (KE prog w) _ (field (.ref z) 3>>=_) _ _ u;refine Aa (Bo g1 rfl (x:=.ref h) rfl (Aa (Bm P rfl ?_)));show KC (KE prog w) _ (AS (.ref z)>>=_) _ _ u;refine Aa ?_;unfold AS;refine Aa (Bo g1 rfl (x:=.none) rfl (Ae ?_));simp only[if_true];refine Aa (Cp (Aa (Bo g1 rfl (x:=.ref to) rfl (Aa (Bq g1 (by simp) fun m1 W i=>?_)))));have z1:IsZip m1 z h to .ellipsis:=W;refine Aa ?_;simp only[Gu,Hl,Dz,DN];refine Aa (Aa (EO ?_));show KC (KE prog w) _ (Bd (.ref l)>>=_) _ _ _;refine Aa (a1d (t1.extBut i.extBut D.i1z) (v1.extBut i.extBut D.l1z) hx fun m2 y2 m=>Ae ?_);have L:KR m2 to a b:=m.extBut _ _ D.TOi1 (i.extBut _ _ D.TOz g3);refine Aa (Bm L rfl (Aa (DX L fun T y3 n=>Aa (DA (Ae ?_)))));have Y:KR T to x b:=y3;refine Aa (Aa (EO ?_));show KC (KE prog w) _ (Bd (.ref j)>>=_) _ _ _;have Z:=((t2.extBut i.extBut D.i2z).extBut m.extBut D.i12.symm).extBut n.extBut D.TOi2.symm;have O:=((U.extBut i.extBut D.l2z).extBut m.extBut D.l2i1).extBut n.extBut D.l2TO;refine Aa (HJ Z O hy fun m4 y4 p=>Ae ?_);have J:KR m4 to x b:=p.extBut _ _ D.TOi2 Y;refine Aa (Bm J rfl (Aa (DX J fun d Q q=>Aa (DA (Ae (Ae ?_))))));have H:KR d to x y:=Q;refine Aa (Bm H rfl (Aa (HZ ?_)));have sz:d.objs.size=u.heap.objs.size:=by rw[q.1,p.1,n.1,m.1,i.1]
 have G:IsZip d z h to .ellipsis:=q.extBut _ _ D.TOz.symm (p.extBut _ _ D.i2z.symm (n.extBut _ _ D.TOz.symm (m.extBut _ _ D.i1z.symm z1)));have kp:∀c o,c≠z->c≠to->c≠l->c≠j->u.heap.get? c=some o->d.get? c=some o:=fun c o n1 n2 n3 n4 e=>q.extBut _ _ n2 (p.extBut _ _ n4 (n.extBut _ _ n2 (m.extBut _ _ n3 (i.extBut _ _ n1 e))));have p1:d.IsTupleIter l r (k1+1):=((y2.extBut n.extBut D.TOi1.symm).extBut p.extBut D.i12).extBut q.extBut D.TOi1.symm;have p2:d.IsListIter j s (k2+1):=y4.extBut q.extBut D.TOi2.symm;show KC (KE prog w) _ (Cg (.ref z) (.ref d.objs.size)>>=_) _ _ _;refine Aa ?_;unfold Cg;have X:IsZip (d.push {cls:=.type "tuple",data:=.seq #[x,y]}) z h to .ellipsis:=Ac _ G;refine Aa (Bq X (by simp) fun m7 S M=>?_);have z7:IsZip m7 z h to (Ko d.objs.size):=S;refine Bq z7 (by simp) fun v y8 I=>?_;have N:IsZip v z h to (Ko d.objs.size):=y8;have f:∀c o,c≠z->d.get? c=some o->v.get? c=some o:=fun c o n1 e=>I.extBut _ _ n1 (M.extBut _ _ n1 (Ac _ e));have C:d.objs.size≠z:=BV (Ar G);have np:KR v d.objs.size x y:=I.extBut _ _ C (M.extBut _ _ C (An _ rfl));rw[sz] at N np;refine Ae ⟨_,rfl,Ae ?_⟩;show R (some (.ref d.objs.size)) _;rw[sz];exact hR v N (f _ _ D.TOz H) (p1.at fun o e=>f _ o D.i1z e) (p2.at fun o e=>f _ o D.i2z e) np fun c o n1 n2 n3 n4 e=>f c o n1 (kp c o n1 n2 n3 n4 e)
theorem a87(I:Inv X a σ H s)(h:SqL X.K H l xs)(f:FpOk X a H l):False:=by
 rcases h with (q|⟨o,q⟩)|⟨o,its,n,q,_⟩
 . rw[f.1] at q;cases q
 . rw[f.1] at q;cases q
 . have e:=I.ok.mod.kin _ _ q;rcases f.2.2.2.1 with z|z
   . exact I.ok.noex l o e z
   . exact absurd (AK (Ar e) (Aw I.ok.bsz z)) (Bz _)
theorem a6i(l1 l2:KA)(xs ys:Array KB):Meets (Builtin.«zip.__new__» ⟨[.type "zip",.ref l1,.ref l2],[]⟩) (fun _ R s=>s.heap.IsTuple l1 xs/\s.heap.IsList l2 ys/\
 R (.ok (.ret (.ref (s.heap.objs.size+4)))) {s with heap:=((((s.heap.push {cls:=.type "tuple_iterator",data:=.fields #[.ref l1,.int 0 0]}).push {cls:=.type "list_iterator",data:=.fields #[.ref l2,.int 0 0]}).push {cls:=.type "tuple",data:=.seq #[.ref s.heap.objs.size,.ref (s.heap.objs.size+1)]}).push {cls:=.type "tuple",data:=.seq #[.none,.none]}).push {cls:=.type "zip",data:=.fields #[.none,.bool false,.bool false,.ref (s.heap.objs.size+2),.ref (s.heap.objs.size+3)]}}) :=
 .of_wp fun prog w A R s h=>by
  obtain⟨m,g,d,tk,os⟩:=s;obtain⟨b,c,h⟩:=h;have sub:=sub_zip;have a:IZ (HF ⟨m,g,d,tk,os⟩) l1 xs:=b;have f:Jo (HF ⟨m.push {cls:=.type "tuple_iterator",data:=.fields #[.ref l1,.int 0 0]},g,d,tk,os⟩) l2 ys:=by
   obtain⟨o,e,r⟩:=c;exact⟨o,Ac _ e,r⟩
  have i:(m.push {cls:=.type "tuple_iterator",data:=.fields #[.ref l1,.int 0 0]}).objs.size=m.objs.size+1:=Br ..
  wp_walk using Ee a,C5 f
  refine⟨_,rfl,?_⟩;simp only[Br];exact h
end L2
namespace Kz
open PySem PyProof.Rows
theorem a05:typeLookup (.type "zip") "keys"=pure none:=by rw[CP,Cd];kernel_rfl
theorem a4t:typeLookup (.type "zip") "__getattr__"=pure none:=by rw[CP,Cd];kernel_rfl
theorem uf:isSubtype (.type "AttributeError") (.type "AttributeError")=pure true:=by rw[Et];kernel_rfl
theorem a1r:entryFor table "zip.__getattribute__"=some Builtin.«object.__getattribute__» := HR (id' := "object.__getattribute__") (by kernel_rfl) (by first|rfl|decide) (by decide) (by kernel_rfl)
set_option maxHeartbeats 16000000 in
theorem a5a{t:Nat}{os:OsState}(q:A.handled=none)(p:h.get? a=some {cls:=.type "zip",dict:=none,data:=.fields xs,slots:=v})(hq:∀h' e t',(∀b u,h.get? b=some u->h'.get? b=some u)->(∃c,h'.get? e=some c/\c.cls=.type "AttributeError")->h.objs.size<=h'.objs.size->E (.ref e) ⟨h',g,d,t',os⟩):
 KC (KE prog w) A (Builtin.«object.__getattribute__» ⟨[.ref a,.str "keys" tk],[]⟩) Q E ⟨h,g,d,t,os⟩:=by
 have y:(⟨h,g,d,t,os⟩:KG).TypeIs (.ref a) "zip" := ⟨_,p,rfl⟩
 have r:=a05
 repeat (any_goals (first|assumption|wp_step))
 have hm:(Bf (toString "'" ++ toString ((Fz "zip").elim "zip" fun x=>x.tpName)++toString "' object has no attribute '")++Bf "keys" ++ Bf "'").length<=KF:=by decide
 generalize (Bf (toString "'" ++ toString ((Fz "zip").elim "zip" fun x=>x.tpName)++toString "' object has no attribute '")++Bf "keys" ++ Bf "'")=j at hm |-;unfold raiseAttrError
 repeat (any_goals (first|assumption|wp_step))
 have s:isSubtype (.type "AttributeError") (.type "AttributeError")=pure true:=uf;dsimp only
 repeat (any_goals (first|assumption|wp_step))
 generalize hO:({cls:=Value.type "AttributeError",data:=_}:Obj)=c;generalize hT2:({cls:=Value.type "tuple",data:=Data.seq #[Value.str j t]}:Obj)=n;have f:c.cls=.type "AttributeError" := by rw[<- hO]
 have l:∃vs,c.data=.fields vs:=⟨_,by rw[<- hO]⟩
 obtain⟨vs,i⟩:=l;have o:((h.push n).push c).get? (h.push n).objs.size=some c:=An _ (by rw[<- hO];rfl);refine Fo q (hq _ _ _ (fun b u hb=>?_) ⟨_,B9 _ o (DM (CL i _)),(EG ..).trans f⟩ ?_)
 . have m:=Ar (Ac n hb);rw[ID _ _ _ _ (AC m)];exact Ac _ (Ac _ hb)
 . rw[Jt,size_push',size_push'];lia
set_option maxHeartbeats 16000000 in
theorem attr{t:Nat}{os:OsState}(n:A.handled=none)(f:h.get? a=some {cls:=.type "zip",dict:=none,data:=.fields xs,slots:=s})(hq:∀h' t',(∀b u,h.get? b=some u->h'.get? b=some u)->h.objs.size<=h'.objs.size->Q none ⟨h',g,d,t',os⟩):KC (KE prog w) A (getAttr? (.ref a) "keys") Q E ⟨h,g,d,t,os⟩:=by
 have v:(⟨h,g,d,t,os⟩:KG).TypeIs (.ref a) "zip" := ⟨_,f,rfl⟩
 have c:(⟨h,g,d,t+1,os⟩:KG).TypeIs (.ref a) "zip" := ⟨_,f,rfl⟩
 have f2:=F.slot_zip_getattribute.lookup;have q:=F.slot_zip_getattribute.bind (.ref a);have r:isSubtype (.type "AttributeError") (.type "AttributeError")=pure true:=uf;unfold getAttr? getAttrBy?
 repeat (any_goals (first|assumption|wp_step))
 refine DS F.slot_zip_getattribute.plain a1r (F.slot_zip_getattribute.check _ _ _ _ _ _ _ _ c (F.args_zip_getattribute_2 _ _) (a5a ?_ f fun h' e t' k m hs=>?_))
 . exact n
 obtain⟨y,i,j⟩:=m;have o:(⟨h',g,d,t',os⟩:KG).TypeIs (.ref e) "AttributeError" := ⟨_,i,j⟩
 have p:=a4t;have l:=hq h' t' k hs;show KC (KE prog w) A (getattributeRaised (Value.ref a) (Value.str (Bf "keys") t) (Value.type "zip") (.ref e) none false false) _ _ _
 repeat (any_goals (first|assumption|wp_step))
end Kz
namespace L2
open PyProof.Rows
abbrev IsZ2(h:KU)(z ti to T:KA)(f:Bool):Prop:=h.get? z=some {cls:=.type "zip",dict:=none,data:=.fields #[Ko T,.bool f,.bool false,.ref ti,.ref to],slots := #[]}
theorem a0e(g1:IsZ2 u.heap z e to T f)(h:KR u.heap T a b)(c:∀g,IsZ2 g z e to T true->Cn z u.heap g->Q false {u with heap:=g}):KC (KE prog w) A (AS (.ref z)) Q E u:=by
 unfold AS;refine Aa (Bo g1 rfl (x:=Ko T) rfl ?_);show KC _ _ (loadIfAlive T>>=_) _ _ _;refine Aa (PySem.W.kdx_alive h ?_);rw[if_neg (by simp)];refine Aa (Bo g1 rfl (x:=.bool f) rfl ?_);cases f with
 | false =>
  rw[if_pos (by decide)];refine Aa (Bq g1 (by simp) fun m y d=>Ae (c m y d))
 | true =>
  rw[if_neg (by decide)];exact Ae (c u.heap g1 ⟨rfl,fun _ _=>rfl⟩)
theorem a88{x:KB}(D:ZipApart z i to m j q p)(O:T≠z)(g1:IsZ2 u.heap z i to T f)(L:KR u.heap T a b)(r:KR u.heap i (.ref m) (.ref j))(t1:u.heap.IsTupleIter m q k1)(t2:u.heap.IsListIter j p k2)(G:u.heap.IsTuple q xs)(I:u.heap.IsList p ys)(C:xs[k1]?=some x)(H:ys[k2]?=some y)(v:∀g,IsZ2 g z i to T true->g.IsTupleIter m q (k1+1)->g.IsListIter j p (k2+1)->KR g u.heap.objs.size x y->
 (∀c o,c≠z->c≠m->c≠j->u.heap.get? c=some o->g.get? c=some o)->R (some (.ref u.heap.objs.size)) {u with heap:=g}):KC (KE prog w) A (Kh (.ref z)) R E u:=by
 have ty:u.TypeIs (.ref z) "zip" := ⟨_,g1,rfl⟩
 unfold Kh;refine Aa (CV (Bn ty Cc (Bp Cc ty DW ?_ (DH _))));show KC (KE prog w) _ (field (.ref z) 2>>=_) _ _ u;refine Aa (Bo g1 rfl (x:=.bool false) rfl ?_);show KC (KE prog w) _ (field (.ref z) 3>>=_) _ _ u;refine Aa (Bo g1 rfl (x:=.ref i) rfl (Aa (Bm r rfl ?_)));show KC (KE prog w) _ (AS (.ref z)>>=_) _ _ u;refine Aa (a0e g1 L fun m1 N d=>?_);simp only[if_false,B0];refine Aa ?_;rw[<- Ja];simp only[Dz,DN];refine Aa (Aa (AU ?_));show KC (KE prog w) _ (Bd (.ref m)>>=_) _ _ _;refine Aa (a1d (t1.extBut d.extBut D.i1z) (G.extBut d.extBut D.l1z) C fun m2 J h=>Ae (Ae ?_));refine Aa (Aa (AU ?_));show KC (KE prog w) _ (Bd (.ref j)>>=_) _ _ _;refine Aa (HJ ((t2.extBut d.extBut D.i2z).extBut h.extBut D.i12.symm) ((I.extBut d.extBut D.l2z).extBut h.extBut D.l2i1) H fun l M n=>Ae (Ae (Ae ?_)));have sz:l.objs.size=u.heap.objs.size:=by rw[n.1,h.1,d.1]
 have s:IsZ2 l z i to T true:=n.extBut _ _ D.i2z.symm (h.extBut _ _ D.i1z.symm N);refine Aa (HZ (hsz:=show 2<=KF by decide) (Ae ?_));refine⟨_,rfl,Ae ?_⟩;show R (some (.ref l.objs.size)) _;rw[sz];have np:KR (l.push {cls:=.type "tuple",data:=.seq #[x,y]}) l.objs.size x y:=An _ rfl;rw[sz] at np;exact v _ (Ac _ s) ((J.extBut n.extBut D.i12).at fun o e=>Ac _ e) (M.at fun o e=>Ac _ e) np fun c o n1 n2 n3 e=>Ac _ (n.extBut _ _ n3 (h.extBut _ _ n2 (d.extBut _ _ n1 e)))
theorem ab0(H:A.handled=none)(D:ZipApart z i to d y j J)(g1:IsZ2 u.heap z i to T f)(G:KR u.heap T a b)(p:KR u.heap i (.ref d) (.ref y))(t1:u.heap.IsTupleIter d j k1)(C:u.heap.IsTuple j xs)(v:xs[k1]?=none)(r:∀g,(∀c o,c≠z->c≠d->u.heap.get? c=some o->g.get? c=some o)->R none {u with heap:=g}):KC (KE prog w) A (Kh (.ref z)) R E u:=by
 have ty:u.TypeIs (.ref z) "zip" := ⟨_,g1,rfl⟩
 unfold Kh;refine Aa (CV (Bn ty Cc (Bp Cc ty DW ?_ (DH _))));show KC (KE prog w) _ (field (.ref z) 2>>=_) _ _ u;refine Aa (Bo g1 rfl (x:=.bool false) rfl ?_);show KC (KE prog w) _ (field (.ref z) 3>>=_) _ _ u;refine Aa (Bo g1 rfl (x:=.ref i) rfl (Aa (Bm p rfl ?_)));show KC (KE prog w) _ (AS (.ref z)>>=_) _ _ u;refine Aa (a0e g1 G fun m1 L h=>?_);simp only[if_false,B0];refine Aa ?_;rw[<- Ja];simp only[Dz,DN];refine Aa (Aa (AU ?_));show KC (KE prog w) _ (Bd (.ref d)>>=_) _ _ _;refine Aa (a0l H (t1.extBut h.extBut D.i1z) (C.extBut h.extBut D.l1z) v fun m2 e I m=>?_);obtain⟨s,n,l⟩:=m;refine Aa (DT (T := "StopIteration") (b:=true) ⟨s,n,l⟩ Fw ?_);exact Ae (r m2 fun c o n1 n3 q=>I _ _ n3 (h.extBut _ _ n1 q))
inductive ZSt(h:KU)(n l1 l2 p:KA):Nat->Prop
 | z0 (a b:KB)(g1:IsZip h (n+4) (n+2) (n+3) .none)(g2:KR h (n+2) (.ref n) (.ref (n+1)))(g3:KR h (n+3) a b)(t1:h.IsTupleIter n l1 0)(t2:h.IsListIter (n+1) l2 0):ZSt h n l1 l2 p 0
 | zs (i:Nat)(T:KA)(f:Bool)(a b:KB)(hT:p<T)(g1:IsZ2 h (n+4) (n+2) (n+3) T f)(gT:KR h T a b)(g2:KR h (n+2) (.ref n) (.ref (n+1)))(t1:h.IsTupleIter n l1 (i+1))(t2:h.IsListIter (n+1) l2 (i+1)):ZSt h n l1 l2 p (i+1)
theorem ZSt.keep(z:ZSt h n l1 l2 p i)(hn:n+4<p)(k:∀c o,c≠p->h.get? c=some o->h'.get? c=some o):ZSt h' n l1 l2 p i:=by
 have d:n+4≠p:=AC hn;have g:n+2≠p:=AC (Ba (Dl (show 2<=4 by decide) n) hn);have m:n+3≠p:=AC (Ba (Dl (show 3<=4 by decide) n) hn);have l:n≠p:=AC (Ba (BE n 4) hn);have j:n+1≠p:=AC (Ba (Dl (show 1<=4 by decide) n) hn);cases z with
 | z0 a b g1 g2 g3 t1 t2=>exact .z0 a b (k _ _ d g1) (k _ _ g g2) (k _ _ m g3) (t1.at fun o e=>k _ o l e) (t2.at fun o e=>k _ o j e)
 | zs i T f a b hT g1 gT g2 t1 t2=>exact .zs i T f a b hT (k _ _ d g1) (k _ _ (BV hT) gT) (k _ _ g g2) (t1.at fun o e=>k _ o l e) (t2.at fun o e=>k _ o j e)
theorem ZSt.item{x:V}(I:Inv X h σ H s)(z:ZSt s.heap n l1 l2 p i)(q:∀b∈j3 n,FpOk X h H b)(q1:SqT X.K H l1 xs)(W:SqL X.K H l2 ys)(hx:xs[i]?=some x)(hy:ys[i]?=some y)(hp:p<s.heap.objs.size)(Y:∀u v m,RelV x u->RelV y v->KR m.heap s.heap.objs.size u v->Inv X h σ H m->ZSt m.heap n l1 l2 p (i+1)->m.toks=s.toks->R (some (.ref s.heap.objs.size)) m):KC (KE X.prog X.w) A (Kh (.ref (n+4))) R E s:=by
 obtain⟨d,r1,S,_⟩:=I.tuple q1;obtain⟨Z,r2,P,_⟩:=I.list W;obtain⟨u,U,O⟩:=r1.get hx;obtain⟨v,Q,rv⟩:=r2.get hy;have D:ZipApart (n+4) (n+2) (n+3) n (n+1) l1 l2:=oz (fun z=>wt I q1 (q _ z)) (fun z=>a87 I W (q _ z));cases z with
 | z0 a b g1 g2 g3 t1 t2 =>
  refine a6d D g1 g2 g3 t1 t2 (show s.heap.IsTuple l1 d.toArray from S) P.isList (x:=u) (y:=v) (by simpa using U) (by simpa using Q) fun h' L a2 N M r j=>?_;refine Y u v _ O rv r (I.turnedL (ch:=j3 n) (t':=s.toks) (fun b o hb e=>?_) q) (.zs 0 s.heap.objs.size false u v hp L r (j _ _ D.TIz D.TITO D.TIi1 D.TIi2 g2) N M) rfl;unfold j3 at hb;simp only[Ah,Av,or_false,not_or] at hb;exact j b o hb.1 hb.2.2.1 hb.2.2.2.1 hb.2.2.2.2 e
 | zs i T f a b hT g1 gT g2 t1 t2 =>
  have c:s.heap.get? T=some {cls:=.type "tuple",data:=.seq #[a,b]}:=gT;have l:T≠n+4:=fun e=>by
   rw[e] at c;have g:=congrArg (fun o=>o.map Obj.cls) ((show s.heap.get? (n+4)=some _ from g1).symm.trans c);simp at g
  have C:T≠n:=fun e=>by
   obtain⟨o,G,F,_⟩:=t1;rw[e] at c;have g:=G.symm.trans c;cases g;simp at F
  have J:T≠n+1:=fun e=>by
   obtain⟨o,G,F,_⟩:=t2;rw[e] at c;have g:=G.symm.trans c;cases g;simp at F
  refine a88 D l g1 gT g2 t1 t2 (show s.heap.IsTuple l1 d.toArray from S) P.isList (x:=u) (y:=v) (by simpa using U) (by simpa using Q) fun h' L N M r j=>?_;refine Y u v _ O rv r (I.turnedL (ch:=j3 n) (t':=s.toks) (fun b o hb e=>?_) q) (.zs (i+1) T true a b hT L (j _ _ l C J gT) (j _ _ D.TIz D.TIi1 D.TIi2 g2) N M) rfl;unfold j3 at hb;simp only[Ah,Av,or_false,not_or] at hb;exact j b o hb.1 hb.2.2.2.1 hb.2.2.2.2 e
theorem ZSt.done(u:A.handled=none)(I:Inv X g σ H s)(z:ZSt s.heap n l1 l2 p i)(j:∀b∈j3 n,FpOk X g H b)(r:SqT X.K H l1 xs)(C:SqL X.K H l2 ys)(F:xs.length<=i)(q:∀m,Inv X g σ H m->R none m):KC (KE X.prog X.w) A (Kh (.ref (n+4))) R E s:=by
 obtain⟨d,y,l,_⟩:=I.tuple r;have v:=y.length;have D:ZipApart (n+4) (n+2) (n+3) n (n+1) l1 l2:=oz (fun z=>wt I r (j _ z)) (fun z=>a87 I C (j _ z));have hn:d.toArray[i]?=none:=by rw[Ct,Bx (by lia)]
 have kp:∀{h':KU},(∀c o,c≠n+4->c≠n->s.heap.get? c=some o->h'.get? c=some o)->Inv X g σ H {s with heap:=h'}:=fun h=>I.turnedL (ch:=j3 n) (t':=s.toks) (fun b o hb e=>by
  unfold j3 at hb;simp only[Ah,Av,or_false,not_or] at hb;exact h b o hb.1 hb.2.2.2.1 e) j
 cases z with
 | z0 a b g1 g2 g3 t1 t2=>exact a1j u D g1 g2 t1 (show s.heap.IsTuple l1 d.toArray from l) hn fun h' h=>q _ (kp h)
 | zs i T f a b hT g1 gT g2 t1 t2=>exact ab0 u D g1 gT g2 t1 (show s.heap.IsTuple l1 d.toArray from l) hn fun h' h=>q _ (kp h)
section
variable{xs:List Str}{ys:List V} in
theorem a4b:∀{xs:List Str}{ys:List V},xs.length=ys.length->(xs.zip ys).map (·.1)=xs
 | [],_,_=>rfl
 | x::xs,[],h=>by cases h
 | x::xs,y::ys,h=>by rw[CN,As,a4b (by simpa using h)]
theorem ab2(hn:n+4<p)(hb:b∈j3 n):b≠p:=by grind [j3]
theorem a59{xs:List Str}(hh:A.handled=none)(hp:H p=none)(Q:SqT X.K H l1 (xs.map V.str))(N:SqL X.K H l2 ys)(C:xs.length=ys.length)(hn:xs.Nodup)(hz:xs.length<=1000)(g:n+4<p):
 ∀(k i:Nat) (s:KG),xs.length-i=k->i<=xs.length->Inv X d σ (Hd H p (xs.zip ys) i) s->ZSt s.heap n l1 l2 p i->(∀b∈j3 n,FpOk X d (Hd H p (xs.zip ys) i) b)->
   (∀s',Inv X d σ (Hd H p (xs.zip ys) xs.length) s'->R (.ok (.ret .none)) s')->Km (KE X.prog X.w) A (.builtin "dict.update.loop" ⟨[.ref p,.ref (n+4),.int i 0,.none],[]⟩) R s:=by
 have a:∀i,Same H (Hd H p (xs.zip ys) i):=fun i=>gk hp _;have ac:(xs.zip ys).length=xs.length:=by rw[Ec];lia
 intro k;induction k with
 | zero =>
  intro i s W hi I z u q;have e:i=xs.length:=by lia
  refine Bw Ka.entry_loop ?_;rw[AY Ka.plain_loop _];show KC _ A.in1 (Kh (.ref (n+4))>>=_) _ _ s;refine Aa (ZSt.done (A:=A.in1) hh I z u ((a i).seqT Q) (se (a i) N) (by rw[Ad];lia) fun h v=>?_);refine Aa (Ae (Ae (q _ ?_)));rw[<- e];exact v
 | succ k ih =>
  intro i s W hi I z u q;have r:i<xs.length:=by lia
  obtain⟨x,O⟩:∃x,xs[i]?=some x:=⟨_,Af r⟩
  obtain⟨y,P⟩:∃y,ys[i]?=some y:=⟨_,Af (by lia)⟩
  have J:(xs.zip ys)[i]?=some (x,y):=by rw[Ed];exact⟨O,P⟩
  have f:(Hd H p (xs.zip ys) i) p=some (.dK (((xs.zip ys).take i).map kk)):=g8;refine Bw Ka.entry_loop ?_;rw[AY Ka.plain_loop _];show KC _ A.in1 (Kh (.ref (n+4))>>=_) _ _ s;obtain⟨_,ab,_,_,D⟩:=wu I.hok f;have hps:p<s.heap.objs.size:=let ⟨o,_,_,ho,_⟩:=D;Ar ho;refine Aa (z.item I u ((a i).seqT Q) (se (a i) N) (x:=.str x) (y:=y) (by rw[Am,O];rfl) P hps fun u1 u2 h U Y j v Z aa=>?_);dsimp only;refine Aa (AU ?_);refine Aa (Df ?_);unfold Hy;refine Aa (CJ (T := "tuple") ⟨_,j,rfl⟩ ?_);rw[if_pos (by decide)];refine Aa (Bm j rfl (Ae ?_));refine AU ?_;obtain⟨z0,hd,vs,rel,dd⟩:=wu v.hok f;have G:vs.length<=KF:=by rw[<- rel.length];exact z0
  refine IE (s:=h) (hsz:=G) (sy (k:=Sum.inr x) U) dd fun L m l=>?_;have F:Mut ((Hd H p (xs.zip ys) i) p):=by rw[f];exact True.intro
  have S:∃q,L.get? p=some q:=let ⟨q,_,_,hq,_⟩:=m;⟨q,hq⟩;have E:(putK (((xs.zip ys).take i).map kk) (Sum.inr x) y).length<=KF:=by
   have:=pf (((xs.zip ys).take i).map kk) (Sum.inr x) y;rw[Ad,AQ] at this;exact BG (l8 (by lia))
  have I2:Inv X d σ (Hd H p (xs.zip ys) (i+1)) {h with heap:=L,toks:=h.toks+1}:=by
   have:=qq (t':=h.toks+1) (ob:=.dK (putK (((xs.zip ys).take i).map kk) (Sum.inr x) y)) v F l S (tz E hd (rel.put (Sum.inr x) Y) m);rw[a5y (kv:=(x,y)) (by rw[a4b C];exact hn) J] at this;have e:upd (Hd H p (xs.zip ys) i) p (.dK (((xs.zip ys).take (i+1)).map kk))=Hd H p (xs.zip ys) (i+1):=by
    funext b;unfold Hd
    by_cases c:b=p
    . rw[c,g8,g8]
    . rw[f6 c,f6 c,f6 c]
   rw[e] at this;exact this
  refine Ae ⟨BC Ka.plain_loop _,ih (i+1) _ (by lia) r I2 (Z.keep g fun c o nc e=>(l.2 c nc).trans e) (fun b hb=>?_) q⟩;have M:=u b hb;refine⟨?_,M.2⟩;have:=M.1;unfold Hd at this |-;rw[f6 (ab2 g hb)] at this |-;exact this
end
inductive rDictZ(K:Ab)(vs:List V)(H:Hp)(Q:VK):Prop
 | mk (l1 l2:KA)(xs:List Str)(ys:List V)(h0:vs=[.ref l1,.ref l2])(h1:SqT K H l1 (xs.map V.str))(h2:SqL K H l2 ys)(hxy:xs.length=ys.length)(hn:xs.Nodup)(hz:xs.length<=1000)(q:∀p,H p=none->Q (.ref p) (upd H p (.dK ((xs.zip ys).map kk)))):rDictZ K vs H Q
noncomputable def a80(K:Ab)(ta:TA):TE:=fun σ H Q=>ta σ H fun vs H1=>rDictZ K vs H1 Q
theorem a9q(hc:X.calm=true)(W:Gl X "dict")(U:X.mg "dict"=none)(hg:Gl X "zip")(hm:X.mg "zip"=none)(ha:PA X [a,b] ta)(hs:KD [a,b] X.env=[(false,eval a X.env),(false,eval b X.env)])(M:KD [b] X.env=[(false,eval b X.env)])(L:KD [.Call (.Name "zip" p) [a,b] [] pos] X.env=[(false,eval (.Call (.Name "zip" p) [a,b] [] pos) X.env)]):
 PE X (.Call (.Name "dict" pd) [.Call (.Name "zip" p) [a,b] [] pos] [] ae) (a80 X.K ta):=by
 intro v s σ H Q I h;refine Call_ (oe I W U boot_dict (BH ?_ (by rw[L];rfl) rfl));rw[L];show KC _ _ (spliced ((false,eval (.Call (.Name "zip" p) [a,b] [] pos) X.env)::[])) _ _ s;refine Dv ?_;refine Call_ (oe I hg hm boot_zip (BH (thn (ha pos v s σ H _ I h) fun us d ⟨vs,E,J,r1,R⟩=>?_) (by rw[hs,M]) (by rw[M];rfl)));obtain⟨l1,l2,xs,ys,e,R,q2,aa,hn,Y,q⟩:=R;subst e;cases r1 with
 | cons r rr =>
  cases rr with
  | cons r' rr =>
   cases rr;cases r;cases r';obtain⟨z,v1,e1,_⟩:=J.tuple R;obtain⟨D,v2,e2,_⟩:=J.list q2;have T1:d.heap.IsTuple l1 z.toArray:=e1;have T2:d.heap.IsList l2 D.toArray:=e2.isList;refine callType_new F.called_zip (by decide) (Jw _ _) (JF _ _) (fun obj=>Io obj _ _) JG (a6i l1 l2 z.toArray D.toArray) ⟨T1,T2,?_⟩;have w:∀(m:KU) (o:Obj),(m.push o).objs.size=m.objs.size+1:=fun m o=>Br ..;have hk:∀b o,d.heap.get? b=some o->∀g i j l u,(((((d.heap.push g).push i).push j).push l).push u).get? b=some o:=fun b o e g i j l u=>Ac _ (Ac _ (Ac _ (Ac _ (Ac _ e))));have at0:∀g i j l u:Obj,g.isFreed=false->(((((d.heap.push g).push i).push j).push l).push u).get? d.heap.objs.size=some g:=fun g i j l u f=>Ac _ (Ac _ (Ac _ (Ac _ (An _ f))));have ab:∀g i j l u:Obj,i.isFreed=false->(((((d.heap.push g).push i).push j).push l).push u).get? (d.heap.objs.size+1)=some i:=fun g i j l u f=>by rw[<- w d.heap g];exact Ac _ (Ac _ (Ac _ (An _ f)))
   have at2:∀g i j l u:Obj,j.isFreed=false->(((((d.heap.push g).push i).push j).push l).push u).get? (d.heap.objs.size+2)=some j:=fun g i j l u f=>by
    have e:d.heap.objs.size+2=((d.heap.push g).push i).objs.size:=by rw[w,w]
    rw[e];exact Ac _ (Ac _ (An _ f))
   have Z:∀g i j l u:Obj,l.isFreed=false->(((((d.heap.push g).push i).push j).push l).push u).get? (d.heap.objs.size+3)=some l:=fun g i j l u f=>by
    have e:d.heap.objs.size+3=(((d.heap.push g).push i).push j).objs.size:=by rw[w,w,w]
    rw[e];exact Ac _ (An _ f)
   have ac:∀g i j l u:Obj,u.isFreed=false->(((((d.heap.push g).push i).push j).push l).push u).get? (d.heap.objs.size+4)=some u:=fun g i j l u f=>by
    have e:d.heap.objs.size+4=((((d.heap.push g).push i).push j).push l).objs.size:=by rw[w,w,w,w]
    rw[e];exact An _ f
   have g1:=ac {cls:=.type "tuple_iterator",data:=.fields #[.ref l1,.int 0 0]} {cls:=.type "list_iterator",data:=.fields #[.ref l2,.int 0 0]} {cls:=.type "tuple",data:=.seq #[.ref d.heap.objs.size,.ref (d.heap.objs.size+1)]} {cls:=.type "tuple",data:=.seq #[.none,.none]} {cls:=.type "zip",data:=.fields #[.none,.bool false,.bool false,.ref (d.heap.objs.size+2),.ref (d.heap.objs.size+3)]} rfl;have g2:=at2 {cls:=.type "tuple_iterator",data:=.fields #[.ref l1,.int 0 0]} {cls:=.type "list_iterator",data:=.fields #[.ref l2,.int 0 0]} {cls:=.type "tuple",data:=.seq #[.ref d.heap.objs.size,.ref (d.heap.objs.size+1)]} {cls:=.type "tuple",data:=.seq #[.none,.none]} {cls:=.type "zip",data:=.fields #[.none,.bool false,.bool false,.ref (d.heap.objs.size+2),.ref (d.heap.objs.size+3)]} rfl;have g3:=Z {cls:=.type "tuple_iterator",data:=.fields #[.ref l1,.int 0 0]} {cls:=.type "list_iterator",data:=.fields #[.ref l2,.int 0 0]} {cls:=.type "tuple",data:=.seq #[.ref d.heap.objs.size,.ref (d.heap.objs.size+1)]} {cls:=.type "tuple",data:=.seq #[.none,.none]} {cls:=.type "zip",data:=.fields #[.none,.bool false,.bool false,.ref (d.heap.objs.size+2),.ref (d.heap.objs.size+3)]} rfl;have g4:=at0 {cls:=.type "tuple_iterator",data:=.fields #[.ref l1,.int 0 0]} {cls:=.type "list_iterator",data:=.fields #[.ref l2,.int 0 0]} {cls:=.type "tuple",data:=.seq #[.ref d.heap.objs.size,.ref (d.heap.objs.size+1)]} {cls:=.type "tuple",data:=.seq #[.none,.none]} {cls:=.type "zip",data:=.fields #[.none,.bool false,.bool false,.ref (d.heap.objs.size+2),.ref (d.heap.objs.size+3)]} rfl;have g5:=ab {cls:=.type "tuple_iterator",data:=.fields #[.ref l1,.int 0 0]} {cls:=.type "list_iterator",data:=.fields #[.ref l2,.int 0 0]} {cls:=.type "tuple",data:=.seq #[.ref d.heap.objs.size,.ref (d.heap.objs.size+1)]} {cls:=.type "tuple",data:=.seq #[.none,.none]} {cls:=.type "zip",data:=.fields #[.none,.bool false,.bool false,.ref (d.heap.objs.size+2),.ref (d.heap.objs.size+3)]} rfl;have kp:=fun b o e=>hk b o e {cls:=.type "tuple_iterator",data:=.fields #[.ref l1,.int 0 0]} {cls:=.type "list_iterator",data:=.fields #[.ref l2,.int 0 0]} {cls:=.type "tuple",data:=.seq #[.ref d.heap.objs.size,.ref (d.heap.objs.size+1)]} {cls:=.type "tuple",data:=.seq #[.none,.none]} {cls:=.type "zip",data:=.fields #[.none,.bool false,.bool false,.ref (d.heap.objs.size+2),.ref (d.heap.objs.size+3)]};refine⟨⟨_,g1,rfl⟩,?_⟩;generalize ((((d.heap.push {cls:=.type "tuple_iterator",data:=.fields #[.ref l1,.int 0 0]}).push {cls:=.type "list_iterator",data:=.fields #[.ref l2,.int 0 0]}).push {cls:=.type "tuple",data:=.seq #[.ref d.heap.objs.size,.ref (d.heap.objs.size+1)]}).push {cls:=.type "tuple",data:=.seq #[.none,.none]}).push {cls:=.type "zip",data:=.fields #[.none,.bool false,.bool false,.ref (d.heap.objs.size+2),.ref (d.heap.objs.size+3)]}=hz at g1 g2 g3 g4 g5 kp |-;refine EA ?_;have Iz:Inv X v σ E {d with heap:=hz}:=J.kept (t':=d.toks) fun b o e=>kp b o e;have P:∀b∈j3 d.heap.objs.size,d.heap.objs.size<=b:=fun b hb=>by
    unfold j3 at hb;simp only[Ah,Av,or_false] at hb;rcases hb with rfl|rfl|rfl|rfl|rfl
    . exact BE _ 4
    . exact BE _ 2
    . exact BE _ 3
    . exact Aj _
    . exact BE _ 1
   have N:∀b∈j3 d.heap.objs.size,FpOk X v E b:=fun b hb=>J.fpOk (H':=E) (P b hb) (J.hok.fresh (P b hb));have y:d.heap.objs.size+4<hz.objs.size:=Ar g1;have Z0:∀p,ZSt hz d.heap.objs.size l1 l2 p 0:=fun p=>.z0 _ _ g1 g2 g3 ⟨_,g4,rfl,rfl⟩ ⟨_,g5,rfl,rfl⟩;generalize d.heap.objs.size=n at g1 N y Z0 |-;refine callType_codes (Q₁:=fun obj s₁=>obj=.ref hz.objs.size/\s₁={d with heap:=hz.push {cls:=.type "dict",data:=.dict #[]}}) Ju (Im _) Jl (Jv _ ⟨rfl,rfl⟩) ?_;rintro obj s₁ ⟨rfl,rfl⟩;have fr:E hz.objs.size=none:=Iz.hok.fresh (Aj _);have S:Inv X v σ (upd E hz.objs.size (.dK [])) {d with heap:=hz.push {cls:=.type "dict",data:=.dict #[]}}:=Iz.laid (t':=d.toks) (fun b o e=>Ac _ e) (Aj _) (yf _ Iz.big);have C:(hz.push {cls:=.type "dict",data:=.dict #[]}).get? hz.objs.size=some {cls:=.type "dict",data:=.dict #[]}:=An _ rfl;have G:=Ac {cls:=.type "dict",data:=.dict #[]} g1;refine⟨⟨_,C,rfl⟩,IY _ _,?_⟩;unfold Builtin.«dict.__init__»;refine Aa ?_;unfold Gr;refine Aa (EW ⟨_,C,rfl⟩ ?_);show KC _ _ (pure (hz.objs.size,[Value.ref (n+4)])) _ _ _;refine Ae ?_;show KC _ _ (Dq "dict.__init__" hz.objs.size (.ref (n+4)) [] .none) _ _ _;unfold Dq;refine Aa (CJ (T := "zip") ⟨_,G,rfl⟩ ?_);rw[if_pos (by decide)];refine Aa (Kz.attr (A:=X.A.in1.in1) (show X.A.in1.in1.handled=none from S.ok.hd hc) G fun h2 t2 k2 z2=>?_);rw[if_pos (show (none:Option KB).isNone=true from rfl)];refine Aa (Cp ?_);have Z2:ZSt h2 n l1 l2 hz.objs.size 0:=(Z0 hz.objs.size).keep y fun c o _ e=>k2 _ _ (Ac _ e);have J2:Inv X v σ (upd E hz.objs.size (.dK [])) {d with heap:=h2,toks:=t2}:=S.kept (t':=t2) fun b o e=>k2 b o e;have O:=k2 _ _ G;refine Aa (Gv (s:={d with heap:=h2,toks:=t2}) O ?_);refine Ae ⟨BC Ka.plain_loop _,a59 (n:=n) (show X.A.in1.handled=none from S.ok.hd hc) fr R q2 aa hn Y y xs.length 0 _ rfl (AH _) J2 Z2 (fun b hb=>?_) fun s' I'=>?_⟩
   . have f0:=N b hb;refine⟨?_,f0.2⟩;show (upd E hz.objs.size (.dK [])) b=none;rw[f6 (ab2 y hb)];exact f0.1
   . refine⟨rfl,.ref hz.objs.size,_,I',rfl,?_⟩;have:=q hz.objs.size fr;unfold Hd;rw[Bi (by rw[Ec];lia)];exact this
theorem aar{K:Ab}(hK:X.K=K)(hc:X.calm=true)(c:Gl X "dict")(d:X.mg "dict"=none)(h:Gl X "zip")(hm:X.mg "zip"=none)(ha:QA X [a,b] i)(hs:autoParam (KD [a,b] X.env=[(false,eval a X.env),(false,eval b X.env)]) a3_)(f:autoParam (KD [b] X.env=[(false,eval b X.env)]) a3_)(e:autoParam (KD [.Call (.Name "zip" p) [a,b] [] pos] X.env=[(false,eval (.Call (.Name "zip" p) [a,b] [] pos) X.env)]) a3_):
 QE X (.Call (.Name "dict" j) [.Call (.Name "zip" p) [a,b] [] pos] [] g) (a80 K i):=by subst hK;exact⟨a9q hc c d h hm ha.run hs f e⟩
end L2
namespace K55
open L2 Mir
abbrev a3d:KN:=jz (top 29) 8
theorem a41:∀{ps ws:List Str},(valV ((ps.zip (ws.map fun w=>V.int (nilF F w))).map kk) (Sum.inr y)).getD (.int 0)=.int (ux ps ws F y)
 | [],_=>rfl
 | _::_,[]=>rfl
 | p::ps,w::ws=>by
  have a:=a41 (F:=F) (y:=y) (ps:=ps) (ws:=ws);unfold ux at a |-;rw[As,CN,As,CN,Cf];by_cases e:y=p
  . subst e;rw[show (y==y)=true from beq_self_eq_true y];show (valV ((Sum.inr y,V.int (nilF F w))::_) (Sum.inr y)).getD (.int 0)=_;rw[qx rfl];rfl
  . rw[show (y==p)=false from beq_eq_false_iff_ne.mpr e];show (valV ((Sum.inr p,V.int (nilF F w))::_) (Sum.inr y)).getD (.int 0)=_;rw[v8 (fun z=>e (EL z).symm)];exact a
theorem a6c:(lv ((ps.zip (ws.map fun w=>V.int (nilF F w))).map kk) zs).map kk=vK zs (ux ps ws F):=by
 unfold lv vK;rw[BA];refine BZ fun z _=>?_;show (Sum.inr z,(valV _ (Sum.inr z)).getD (.int 0))=_;rw[a41]
theorem o9:∀{ys:List α}{ws:List β},KI (fun y w=>y=g w) ys ws->ys=ws.map g
 | _,_,.nil=>rfl
 | _,_,.cons h r=>by rw[h,o9 r];rfl
inductive spEnter(K:Ab)(CM CF:KA)(vs:List V)(H:Hp)(Q:VK)(E:XK):Prop
 | mk (X:Hp)(m dm pd fl cd t v pr':KA)(fm:List (Str×V))(g:Int)(b:Bool)(pcs:List Prc)(a:Fr)(frs:List Fr)(x c:Str)(ws xs:List Str)(pkv:List (Key×V))(pc:Prc)(ic:Nat)(es:List Deed)(h0:vs=[.ref m,.ref a.p,.ref t])(hm:H m=some (.ins CM dm fm)/\m≠a.p)(hM:MFs fm pd fl cd g b)(hS:StAt K CF X pcs H fl (a::frs))(ht:X t=some (.tup [.str "call",.str x,.str c,.ref v]))(hv:X v=some (.tup (ws.map V.str)))(hws:∀w∈ws,w∈a.ys++[("nil":Str)])(hpd:X pd=some (.dK pkv))(hc:valV pkv (Sum.inr c)=some (.ref pr'))(hpc:PrcAt K X (B 5) pr' pc)(hok:PrcOk (B 5) xs pc)(hl:ws.length=pc.ps.length)(hn:pc.ps.Nodup)(hes:subL a.pc.body a.f.pp=some es)(hk:a.f.k<es.length)(hic:pcs[ic]?=some pc)(hlen:frs.length<=900)(q:∀H' (n a':Fr),StAt K CF X pcs H' fl (n::a'::frs)->n.f=⟨ic,[],0,ux pc.ps ws a.f.F,x⟩->n.pc=pc->a'.f=qm pcs a.f (a.f.pp,a.f.k+1)->a'.p=a.p->a'.nd=a.nd->a'.ys=a.ys->a'.pc=a.pc->H n.p=none->H n.nd=none->KpS fl (a::frs) H H'->H' m=some (.ins CM dm fm)->Q .non H'):spEnter K CM CF vs H Q E
theorem a91(hn:5<=n)(C:Con K mg w)(T:TxM K mg CM fI)(U:TxF K mg l fJ)(F:GM K CM "enter" "Machine.enter" a3d)(GN:MC K mg w l 2 "number" (vg l))(GM:MC K mg w l 5 "move" (u9 K l))(GH:FC K mg w 1 "behind_deed" (spBehind K))(GI:MC K mg w l n "__init__" (spFInit K l (B 5))):MC K mg w CM (n+1+1) "enter" (spEnter K CM l):=by
 refine F.ok id 3 ["self","frame","deed","called","numbers"] @fun P base f aX A outer s0 H vs Q E hr h nd=>?_;obtain⟨X,m,dm,pd,fl,cd,t,v,r,fm,g,b,pcs,a,frs,x,c,ws,xs,aY,pc,ic,es,rfl,⟨hm,aP⟩,hM,M,ht,hv,aE,hpd,hc,am,hok,hl,aK,aR,hk,aO,aV,q⟩:=h;have aU:=l0 hr;have av:=hr.mono (j:=1) (by lia);have ax:=hr.mono (j:=2) (by lia);have az:=hr.mono (j:=5) (by lia);refine⟨_,gc (gu 3 nd (qr aU (im K (qv 0)) (gx K (qv 2) dn) (fun _ _=>rfl)))
  (gc (qy ["word","frame"] [1] (i:=4) nd rfl (Or.inl rfl) (a40 (K:=K) rfl (gx K (qv 2) dn)) (fun _ _ _ _=>mn) (fun _ _ _ _=>(kh (qv 1) U.cl GN ax (gj (qv 0) ad))))
  (gc (ia (kh (qv 1) U.cl GM az (gw (gr GH av (jk (im K (qv 1)) ad)) ad)))
  (gi (ia (jr (K:=K) rfl AF Bg Bh jo (im K (qv 0)) (gw (a1c U.mkC GI hr U.mgC (gj (qv 3) (og (i0 ad) (gw (aar (K:=K) rfl rfl rfl C.dict rfl C.zip (gq (gx K (qv 3) dn) (gj (qv 4) ad))) (gq (gx K (qv 2) dn) ad))))) ad)))))),?_⟩
 have Sa:=M.fr a Ag;obtain⟨ay,t1,t2,f1,p1,f2,p2,ai,e⟩:=id am;have gd:=DGet.k (k:=Sum.inr c) (M.sX _ _ hpd);rw[hc] at gd;refine i5 fun D1 aj _ _=>?_;refine⟨_,rfl,m,CM,dm,fm,_,rfl,hm,T.cl,T.nP,hM.procedures,_,rfl,t,_,2,_,rfl,rfl,SqT.of (M.sX _ _ ht),rfl,pd,_,rfl,gd,?_⟩;refine aj [rQ m,rQ a.p,rQ t,rQ r,nQ] _ ?_;clear aj;refine i5 fun D2 ac _ _=>?_;have aH:ws.length<=1000:=by have:=hok.ps.1;lia
 refine⟨_,rfl,t,_,3,_,rfl,rfl,SqT.of (M.sX _ _ ht),rfl,v,rfl,⟨_,SqT.of (M.sX _ _ hv)⟩,?_⟩;refine nk (ws.map V.str) ws (fun D G y (w:Str)=>y=V.int (nilF a.f.F w)) id a1l (SqT.of (M.sX _ _ hv)) (by rw[Ad];exact aH) (by rw[Ad]) (fun D G1 G2 y w z _=>z) (fun D hD j y w hy hw H2 e2 ac Q' q'=>?_) (fun D H2 ys hD e2 kD hpt=>?_)
 . have au:y=.str w:=by rw[Am,hw] at hy;exact (Au hy).symm
   subst au;have S2:=M.same e2;have d:=S2.fr a Ag;exact⟨_,rfl,a.p,a.dx,a.fs,rfl,d.hp,d.ff.meth _ (by simp),_,rfl,a.p,a.dx,a.pr,a.pt,a.nd,a.fs,a.f.rc,w,rfl,d.hp,d.ff,li d.hnd (a61 (aE w (AE hw))) (q' _ _ (Same.refl _) rfl)⟩
 have aq:=o9 (by rw[CZ] at hpt;exact hpt);subst aq;have S2:=M.same e2;have d:=S2.fr a Ag;refine ac [rQ m,rQ a.p,rQ t,rQ r,rQ D] _ ?_;clear ac;refine ke (a:=n0 _) fun D3 al _ _=>?_;obtain⟨u1,u3,u4,hpr⟩:=d.hpr;obtain⟨_,_,_,_,_,_,_,_,a0,_⟩:=d.deed;refine⟨_,rfl,a.p,a.dx,a.fs,rfl,d.hp,d.ff.meth _ (by simp),?_⟩;refine⟨_,rfl,a.p,l,a.dx,a.fs,_,rfl,d.hp,U.cl,U.nA,d.ff.path,a.pt,flat a.f.pp,(a.f.k:Int),rfl,d.hpt,by rw[mi];lia,fun q0 H3 e3 ar=>?_⟩;have S3:=S2.same e3;have I:=S3.fr a Ag;obtain⟨eo,O,_⟩:=nq I.L aR (show a.f.k+1<=es.length by lia);have aB:=za I.L O;have aN:=O.same S3.sX;refine⟨a.p,a.dx,a.pr,a.pt,a.nd,a.bd,q0,a.fs,a.f.rc,_,u1,_,u3,u4,a.f.pp,a.f.k+1,_,eo,rfl,I.hp,I.ff,(by have:=I.lf;lia),S3.sX _ _ hpr,ar,aN,(by lia),fun q1 fs' H4 e4 hq1 ap aC _=>?_⟩;have aw:=S3.same e4;have S4:=aw.move hq1 ap aC aB;have Y:(upd H4 a.p (.ins l a.dx fs')) m=some (.ins CM dm fm):=by rw[f6 aP];exact ((e2.trans e3).trans e4) _ _ hm
 have ao:(upd H4 a.p (.ins l a.dx fs')) D=some (.lst (ws.map fun w=>V.int (nilF a.f.F w))):=by rw[f6 (fun z=>by rw[z,d.hp] at kD;cases kD)];exact (e3.trans e4) _ _ kD
 have an:KpS fl (a::frs) H (upd H4 a.p (.ins l a.dx fs')):=fun b o z n1 n2 n3=>by rw[f6 (fun y=>n2 (by rw[y];exact Ag))];exact ((e2.trans e3).trans e4) _ _ z
 have aa:∀c,(upd H4 a.p (.ins l a.dx fs')) c=none->H c=none:=fun c z=>by
  by_cases y:c=a.p
  . rw[y,g8] at z;cases z
  . rw[f6 y] at z;exact ((e2.trans e3).trans e4).free z
 generalize upd H4 a.p (.ins l a.dx fs')=H5 at S4 ao an aa Y |-;refine al [rQ m,rQ a.p,rQ t,rQ r,rQ D] _ ?_;clear al;refine⟨_,rfl,m,CM,dm,fm,_,rfl,Y,T.cl,T.nF,hM.frames,.inl ⟨rfl,_,SqL.of S4.hfl⟩,?_⟩;refine⟨_,rfl,(szLn 1),fun z0 aJ=>?_⟩;obtain⟨H6,z1,J,k6⟩:=gs aJ (.tup [V.int 0]);rw[z1];refine⟨_,rfl,r,_,1,_,rfl,rfl,SqT.of (J _ _ (S4.sX _ _ e.tup)),rfl,_,rfl,ay,D,pc.ps,_,rfl,SqT.of (J _ _ (S4.sX _ _ e.pt)),SqL.of (J _ _ ao),(by rw[Ad,hl]),aK,(by have:=hok.ps.1;lia),fun dz aQ=>?_⟩;obtain⟨H7,z2,N,k7⟩:=gs aQ (.dK ((pc.ps.zip (ws.map fun w=>V.int (nilF a.f.F w))).map kk));rw[z2];refine⟨_,rfl,t,_,1,_,rfl,rfl,SqT.of ((J.trans N) _ _ (S4.sX _ _ ht)),rfl,?_⟩;intro p dx s ae aZ;have S:=S4.same (J.trans N);have s8:Same H7 (upd (upd H7 dx (.own p)) p (.ins l dx [])):=fun b o z=>by rw[f6 (gh z s),f6 (gh z ae)];exact z
 obtain⟨aF,R,_⟩:=nq (p:=[]) (k:=0) e.body rfl (AH _);have ag:=za e.body R;refine .mk H7 p dx r z0 dz ai x pc xs _ _ _ _ _ _ [] 0 ([],0) aF rfl s8 s g8 (am.same S.sX) hok (S.sX _ _ e.tup) (SqT.of (N _ _ k6)) (R.same S.sX) (by decide) k7 fun aM Z aI zs H8 e8 aT aS aL aG af ah zn aW zm=>⟨rfl,?_⟩
 rw[a6c] at ah;have S8:=S.same e8;have aD:p∉(({a with pt:=q1,fs:=fs',f:={a.f with pp:=(dueR a.pc.body (a.f.pp).reverse (a.f.k+1)).1,k:=(dueR a.pc.body (a.f.pp).reverse (a.f.k+1)).2}}:Fr)::frs).map (·.p):=fun z=>by
  obtain⟨c',ab,e'⟩:=AA.mp z;have:=(S.fr c' ab).hp;rw[e',s] at this;cases this
 have u:H7 Z=none:=s8.free af;have aA:Z∉(({a with pt:=q1,fs:=fs',f:={a.f with pp:=(dueR a.pc.body (a.f.pp).reverse (a.f.k+1)).1,k:=(dueR a.pc.body (a.f.pp).reverse (a.f.k+1)).2}}:Fr)::frs).map (·.nd):=fun z=>by
  obtain⟨c',ab,e'⟩:=AA.mp z;have:=(S.fr c' ab).hnd;rw[e',u] at this;cases this
 have zl:zs.length<=20:=Aw (AV zn fun y hy=>hok.names y ((zm y).mp hy).2 ((zm y).mp hy).1) hok.len;have FN:FrAt K l X pcs H8 ⟨p,dx,r,aM,Z,ai,aI,zs,pc,⟨ic,[],0,ux pc.ps ws a.f.F,x⟩⟩:=⟨S.sX.free s,S.sX.free u,aT,aS,aL,aG,ah,⟨_,_,_,e.tup⟩,e.body,ag,zl,zm,zn,aO⟩
 refine⟨fl,_,_,rfl,rfl,S8.hfl,j9 (by rw[Dm,Ad,AB];lia),?_⟩;have ak:=((J.trans N).trans e8) _ _ Y;have W:sk pcs a.f=a.pc.body:=Sa.body.1;refine q _ _ _ (S8.push FN aD aA) rfl rfl ?_ rfl rfl rfl rfl (aa _ ((J.trans N).free s)) (aa _ ((J.trans N).free u)) (fun b o z n1 n2 n3=>by rw[f6 n1];exact ((J.trans N).trans e8) _ _ (an b o z n1 n2 n3)) ?_
 . unfold qm;rw[W]
 . rw[f6 (fun z=>by have y:=ak;rw[z,S8.hfl] at y;cases y)];exact ak
noncomputable def CellAt(K:Ab)(H:Hp)(kv:Key×V)(c:Int×Int×Int):Prop:=kv.1=Sum.inl c.1/\∃r,kv.2=.ref r/\SqT K H r [.int c.2.1,.int c.2.2]
noncomputable def a0a(K:Ab)(H:Hp)(cd:KA)(cs:List (Int×Int×Int)):Prop:=∃kvs,H cd=some (.dK kvs)/\KI (CellAt K H) kvs cs
theorem rg(h:CellAt K H kv c)(i:Int):(kv.1=Sum.inl i)↔c.1=i:=by
 rw[h.1];exact⟨fun z=>Kf z,fun z=>by rw[z]⟩
theorem CellAt.keep(h:CellAt K H kv c)(e:∀b o,H b=some o->(∀C d f,o≠.ins C d f)->(∀kvs,o≠.dK kvs)->(∀l,o≠.lst l)->H' b=some o):CellAt K H' kv c:=by
 obtain⟨j,r,g,i⟩:=h;exact⟨j,r,g,pi i fun o a b c d=>e _ _ a b c d⟩
theorem a6n(i:Int)(h:KI (CellAt K H) kvs cs):(kvs.any fun kv=>decide (kv.1=Sum.inl i))=cs.any fun c=>decide (c.1=i):=by
 induction h with
 | nil=>rfl
 | cons h1 _ ih =>
  rw[Ds,Ds,ih]
  congr 1
  exact decide_eq_decide.mpr (rg h1 i)
theorem lu(i:Int)(h:KI (CellAt K H) kvs cs):(∀v,getC cs i=some v->∃r,valV kvs (Sum.inl i)=some (.ref r)/\SqT K H r [.int v.1,.int v.2])/\(getC cs i=none->valV kvs (Sum.inl i)=none):=by
 induction h with
 | nil=>exact⟨fun v z=>(by cases z),fun _=>rfl⟩
 | cons h1 _ ih =>
  rename_i kv c _ _ _;unfold getC at ih |-;rw[BJ];by_cases z:c.1=i
  . rw[decide_eq_true z];obtain⟨_,r,b,d⟩:=id h1;refine⟨fun v a=>⟨r,?_,?_⟩,fun a=>by cases a⟩
    . rw[qx ((rg h1 i).mpr z),b]
    . cases a;exact d
  . rw[decide_eq_false z,v8 (fun y=>z ((rg h1 i).mp y))];exact ih
theorem a0t(h:KI (CellAt K H) kvs cs)(hr:SqT K H r [.int v.1,.int v.2]):KI (CellAt K H) (putK kvs (Sum.inl i) (.ref r)) (putC cs i v):=by
 unfold putK putC;rw[a6n i h];split
 . rename_i hz;clear hz;induction h with
   | nil=>exact .nil
   | cons h1 _ ih =>
    rename_i kv c _ _ _;rw[As,As];refine .cons ?_ ih;by_cases z:c.1=i
    . rw[if_pos z,if_pos ((rg h1 i).mpr z)];exact⟨h1.1,r,rfl,hr⟩
    . rw[if_neg z,if_neg (fun y=>z ((rg h1 i).mp y))];exact h1
 . exact Paired.snocP h ⟨rfl,r,rfl,hr⟩
theorem a55(h:KI (CellAt K H) kvs cs):KI (CellAt K H) (sx kvs (Sum.inl i)) (a1a cs i):=by
 unfold sx a1a;induction h with
 | nil=>exact .nil
 | cons h1 _ ih =>
  rename_i kv c _ _ _;by_cases z:c.1=i
  . rw[Ez (by simpa using (rg h1 i).mpr z),Ez (by simpa using z)];exact ih
  . rw[Ey (by simpa using fun y=>z ((rg h1 i).mp y)),Ey (by simpa using z)];exact .cons h1 ih
noncomputable def KpM(L:List KA)(H H':Hp):Prop:=∀b o,H b=some o->b∉L->H' b=some o
theorem KpM.trans(a:KpM L H d)(b:KpM L d e):KpM L H e:=fun c o h n=>b _ _ (a _ _ h n) n
theorem KpM.of(e:Same H a):KpM L H a:=fun c o h _=>e _ _ h
theorem KpM.put(h:x∈L):KpM L H (upd H x o):=by grind [KpM,upd]
structure MAt(K:Ab)(CM CF:KA)(X:Hp)(pcs:List Prc)(m dm pd fl cd:KA)(H:Hp)(fm:List (Str×V))(s:PM)(frs:List Fr):Prop where
 S:StAt K CF X pcs H fl frs
 ef:frs.map (·.f)=s.frs
 ch:Chain frs
 xm:X m=none
 xc:X cd=none
 hm:H m=some (.ins CM dm fm)
 mf:MFs fm pd fl cd s.g s.fallen
 lm:fm.length<=5
 C:a0a K H cd s.cs
 nm:m∉frs.map (·.p)
 nc:cd∉frs.map (·.nd)
 ne:frs≠[]
theorem MAt.keep{frs:List Fr}(A:MAt K j r X pcs m y q a cd H n s frs)(sX:Same X H')(e:∀b o,H b=some o->(b∈muM m cd a frs\/((∀C d f,o≠.ins C d f)/\(∀kvs,o≠.dK kvs)/\∀l,o≠.lst l))->H' b=some o):MAt K j r X pcs m y q a cd H' n s frs:=by
 obtain⟨kvs,D,i⟩:=A.C;refine⟨⟨sX,A.S.xf,e _ _ A.S.hfl (.inl (by simp[muM])),fun c hc=>(A.S.fr c hc).keep fun b o z w=>e _ _ z ?_,A.S.np,A.S.nn⟩,A.ef,A.ch,A.xm,A.xc,e _ _ A.hm (.inl (by simp[muM])),A.mf,A.lm,⟨kvs,e _ _ D (.inl (by simp[muM])),Paired.mapP i fun _ _ z=>z.keep fun b o z E u v=>e _ _ z (.inr ⟨E,u,v⟩)⟩,A.nm,A.nc,A.ne⟩;have g:∀{x:KA},x=c.p\/x=c.nd->x∈muM m cd a frs:=fun h=>by
  refine Al _ (Al _ (Al _ (Bu.mpr ⟨c,hc,?_⟩)));rcases h with rfl|rfl<;>simp
 rcases w with w|w|w
 . exact .inl (g (.inl w))
 . exact .inl (g (.inr w))
 . exact .inr w
theorem MAt.same{frs:List Fr}(A:MAt K a g X pcs m b d f cd H c s frs)(e:Same H H'):MAt K a g X pcs m b d f cd H' c s frs:=A.keep (A.S.sX.trans e) fun _ _ h _=>e _ _ h
theorem tf{s:PM}(A:a0a K H cd s.cs)(c:x≠cd)(h:∀u,H x=some u->(∃C d f,u=.ins C d f)\/(∃kvs,u=.dK kvs)\/∃l,u=.lst l):a0a K (upd H x o) cd s.cs:=by
 obtain⟨kvs,i,a⟩:=A;refine⟨kvs,by rw[f6 (AO c)];exact i,Paired.mapP a fun _ _ z=>z.keep fun b u z j e g=>?_⟩;rw[f6 (fun y=>?_)];exact z;rw[y] at z;rcases h u z with⟨C,d,f,w⟩|⟨k,w⟩|⟨l,w⟩
 . exact j _ _ _ w
 . exact e _ w
 . exact g _ w
theorem MAt.nums(A:MAt K e l X pcs m g i j cd H h s (a::r)):MAt K e l X pcs m g i j cd (upd H a.nd (.dK (vK a.ys d))) h {s with frs:={a.f with F:=d}::r.map (·.f)} ({a with f:={a.f with F:=d}}::r):=by
 have c:=A.S.fr a Ag;refine⟨A.S.put,rfl,?_,A.xm,A.xc,by rw[f6 (fun z=>by have y:=A.hm;rw[z,c.hnd] at y;cases y)];exact A.hm,A.mf,A.lm,tf A.C (fun z=>A.nc (by rw[<- z];exact Ag)) (fun u z=>.inr (.inl (by rw[c.hnd] at z;exact⟨_,(Au z).symm⟩))),A.nm,A.nc,by simp⟩;have ch:=A.ch;cases r with
 | nil=>trivial
 | cons b r=>exact⟨ch.1,ch.2⟩
theorem MAt.cells{frs:List Fr}(A:MAt K e q X pcs m h n p cd H j s frs)(hp:KI (CellAt K H) a d):MAt K e q X pcs m h n p cd (upd H cd (.dK a)) j {s with cs:=d} frs:=by
 obtain⟨kvs,i,r⟩:=A.C;have ne:∀{b:KA} {o:HO},H b=some o->(∀l,o≠.dK l)->b≠cd:=fun hb g z=>by rw[z,i] at hb;exact g _ (Au hb).symm
 refine⟨⟨fun b o z=>by rw[f6 (gh z A.xc)];exact A.S.sX _ _ z,A.S.xf,by rw[f6 (ne A.S.hfl fun _ z=>by cases z)];exact A.S.hfl,fun c hc=>(A.S.fr c hc).keep fun b o z w=>?_,A.S.np,A.S.nn⟩,A.ef,A.ch,A.xm,A.xc,by rw[f6 (ne A.hm fun _ z=>by cases z)];exact A.hm,A.mf,A.lm,⟨a,g8,Paired.mapP hp fun _ _ z=>z.keep fun b o z _ f _=>by rw[f6 (ne z f)];exact z⟩,A.nm,A.nc,A.ne⟩;rw[f6];exact z;rcases w with w|w|w
 . exact ne z fun l y=>by rw[w,(A.S.fr c hc).hp,y] at z;cases z
 . exact fun y=>A.nc (by rw[<- y,w];exact Cm hc)
 . exact ne z w.2.1
theorem MAt.own{frs:List Fr}(A:MAt K h v X pcs m j i n cd H r s frs)(p:MFs a i n cd g' D)(hl:a.length=r.length):MAt K h v X pcs m j i n cd (upd H m (.ins h j a)) a {s with g:=g',fallen:=D} frs:=by
 have ne:∀{b:KA} {o:HO},H b=some o->(∀C d f,o≠.ins C d f)->b≠m:=fun hb q z=>by rw[z,A.hm] at hb;exact q _ _ _ (Au hb).symm
 have e:m≠cd:=fun z=>by obtain⟨kvs,l,_⟩:=A.C;rw[<- z,A.hm] at l;cases l
 refine⟨⟨fun b o z=>by rw[f6 (gh z A.xm)];exact A.S.sX _ _ z,A.S.xf,by rw[f6 (ne A.S.hfl fun _ _ _ z=>by cases z)];exact A.S.hfl,fun c hc=>(A.S.fr c hc).keep fun b o z w=>?_,A.S.np,A.S.nn⟩,A.ef,A.ch,A.xm,A.xc,g8,p,by rw[hl];exact A.lm,tf A.C e (fun u z=>.inl (by rw[A.hm] at z;exact⟨_,_,_,(Au z).symm⟩)),A.nm,A.nc,A.ne⟩;rw[f6];exact z;rcases w with w|w|w
 . exact fun y=>A.nm (by rw[<- y,w];exact Cm hc)
 . exact ne z fun C d f y=>by rw[w,(A.S.fr c hc).hnd,y] at z;cases z
 . exact ne z w.1
theorem MAt.ma(A:MAt K c j X pcs m d h i cd H e s (a::r)):MaAt c j H m h i cd a.p a.pr a.pt a.nd ((r.map (·.p)).reverse) s.g s.fallen a.f.rc:=by
 have b:=A.S.fr a Ag;refine⟨⟨d,e,A.hm,A.mf⟩,?_,⟨a.dx,a.fs,b.hp,b.ff,by have:=b.lf;lia⟩⟩;rw[A.S.hfl,Ax,List.map_reverse,BA,As,Cj];rfl
noncomputable def Wd(y:Str):Prop:=i8 y=true\/y="nil"
noncomputable def FldW(y:Str):Prop:=y="first" \/ y="second"
inductive RowG:List Str->Prop
 | set (x y:Str)(hx:i8 x=true)(hy:Wd y):RowG [("set":Str),x,y]
 | read (x y f:Str)(hx:i8 x=true)(hy:i8 y=true)(hf:FldW f):RowG [("read":Str),x,y,f]
 | write (y f e:Str)(hy:i8 y=true)(hf:FldW f)(he:Wd e):RowG [("write":Str),y,f,e]
 | new (x e d:Str)(hx:i8 x=true)(he:Wd e)(hd:Wd d):RowG [("new":Str),x,e,d]
 | free (y:Str)(hy:i8 y=true):RowG [("free":Str),y]
noncomputable def a5g(r:List Str):Prop:=∃f x y:Str,r=[f,x,y]/\Wd x/\Wd y
noncomputable def abt(pcs:List Prc):Deed->Prop
 | .plain (.row r)=>RowG r
 | .plain (.call x c ws)=>(x="" \/ i8 x=true)/\(∀w∈ws,Wd w)/\∃pc,pcs[idxP pcs c]?=some pc/\pc.name=c/\ws.length=pc.ps.length/\(x="" \/ i8 pc.res=true)
 | .cond r _ _=>a5g r
 | .loop r _ _ _=>a5g r
structure Pg(K:Ab)(X:Hp)(pcs:List Prc)(pd:KA)(prs:List KA)(xs:List Str):Prop where
 hpd:X pd=some (.dK ((byK (pcs.map (·.name)) prs).map kk))
 hps:KI (PrcAt K X (B 5)) prs pcs
 nn:(pcs.map (·.name)).Nodup
 ok:∀pc∈pcs,PrcOk (B 5) xs pc/\pc.ps.Nodup/\∀d∈allL (B 5) pc.body,abt pcs d
theorem FrAt.word(h:FrAt K i X pcs H a)(hd:mz pcs a.f=some d):d∈allL (B 5) a.pc.body/\∀y∈wrd d,i8 y=true->y∈a.ys:=by
 obtain⟨l,ts,es,_,_,c,_,_,g,e,_⟩:=h.deed;have hm:=a0c (n:=5) (by lia) (a43 _ _ es _ d c (by rw[<- e];exact hd));refine⟨hm,fun y b hn=>(h.ym y).mpr ⟨hn,?_⟩⟩;unfold allW;exact AG _ (Bu.mpr ⟨d,hm,b⟩)
theorem kn(hw:Wd y)(h:i8 y=true->y∈ys):numV (vK ys F) y=some (.int (nilF F y)):=a61 (hw.elim (fun z=>AD _ (h z)) fun z=>AG _ (Ap.mpr z))
theorem wd_ne:("read":Str)≠"set" /\ ("write":Str)≠"set" /\ ("write":Str)≠"read" /\ ("new":Str)≠"set" /\ ("new":Str)≠"read" /\ ("new":Str)≠"write" /\ ("free":Str)≠"set" /\ ("free":Str)≠"read" /\ ("free":Str)≠"write" /\ ("free":Str)≠"new" /\ ("second":Str)≠"first" := by decide
theorem qa(r:List Str):qj (.plain (.row r))=if wAt r 0="read" then some (wAt r 2) else if wAt r 0="write" then some (wAt r 1) else if wAt r 0="free" then some (wAt r 1) else none:=rfl
theorem a0h(x y f:Str):qj (.plain (.row [("read":Str),x,y,f]))=some y:=by
 rw[qa,if_pos (show wAt [("read":Str),x,y,f] 0="read" from rfl)];rfl
theorem zg(y f e:Str):qj (.plain (.row [("write":Str),y,f,e]))=some y:=by
 rw[qa,if_neg (show wAt [("write":Str),y,f,e] 0≠"read" from wd_ne.2.2.1),if_pos (show wAt [("write":Str),y,f,e] 0="write" from rfl)];rfl
theorem a0k(y:Str):qj (.plain (.row [("free":Str),y]))=some y:=by
 obtain⟨_,_,_,_,_,_,_,a,b,_⟩:=wd_ne;rw[qa,if_neg (show wAt [("free":Str),y] 0≠"read" from a),if_neg (show wAt [("free":Str),y] 0≠"write" from b),if_pos (show wAt [("free":Str),y] 0="free" from rfl)];rfl
theorem MAt.change(A:MAt K T CF X pcs m I pd D cd H n s (a::r))(hf:s.fallen=false)(hg:RowG w)(hw:∀y∈wrd (.plain (.row w)),i8 y=true->y∈a.ys)(ht:H t=some (.tup (w.map V.str)))(G:o6 s.cs a.f.F (.plain (.row w))=false)(hc:s.cs.length<=800)(q:∀H' ah,MAt K T CF X pcs m I pd D cd H' ah ⟨{a.f with F:=(jy w a.f.F s.cs s.g).1}::r.map (·.f),(jy w a.f.F s.cs s.g).2.1,(jy w a.f.F s.cs s.g).2.2,false⟩ ({a with f:={a.f with F:=(jy w a.f.F s.cs s.g).1}}::r)->KpM (muM m cd D (a::r)) H H'->Q .non H'):spChange K T CF [.ref m,.ref a.p,.ref t] H Q E:=by
 obtain⟨sf,cs,g,fb⟩:=s;cases hf;have l:=A.S.fr a Ag;have lk:(vK a.ys a.f.F).length<=100:=by unfold vK;rw[Ad];have:=l.hl;lia
 obtain⟨kvs,hcd,u⟩:=id A.C;have lc:kvs.length<=900:=by rw[Ay u];exact Aw hc (by decide)
 have O:a.nd∈muM m cd D (a::r):=by simp[muM]
 have P:cd∈muM m cd D (a::r):=by simp[muM]
 have mm:m∈muM m cd D (a::r):=by simp[muM]
 obtain⟨w1,w2,w3,w4,w5,w6,w7,w8,w9,ai,ag⟩:=wd_ne;have cell:∀{y:Str},qj (.plain (.row w))=some y->∃v,getC cs (nilF a.f.F y)=some v:=fun {y} h=>by
  unfold o6 at G;rw[h] at G;cases e:getC cs (nilF a.f.F y) with
  | none=>simp only[e] at G;cases G
  | some v=>exact⟨v,rfl⟩
 cases hg with
 | set x y hx hy =>
  have e:jy [("set":Str),x,y] a.f.F cs g=(upF a.f.F x (nilF a.f.F y),cs,g):=if_pos rfl;have d:wrd (.plain (.row [("set":Str),x,y]))=[x,y]:=by show jc "set" [x,y]=_;unfold jc;rfl
  rw[d] at hw;rw[e] at q;refine .set m a.p a.dx a.pr a.pt a.nd t a.fs a.f.rc x y _ _ rfl l.hp l.ff ht l.hnd lk (kn hy (hw y (by simp))) ?_;rw[zd (hw x (by simp) hx)];exact q _ n A.nums (KpM.put O)
 | read x y f hx hy hfl =>
  have e:jy [("read":Str),x,y,f] a.f.F cs g=(upF a.f.F x (if f="first" then (oldC cs (nilF a.f.F y)).1 else (oldC cs (nilF a.f.F y)).2),cs,g):=(if_neg w1).trans (if_pos rfl);have d:wrd (.plain (.row [("read":Str),x,y,f]))=[x,y]:=by show jc "read" [x,y,f]=_;unfold jc;rfl
  rw[d] at hw;rw[e] at q;obtain⟨v,N⟩:=cell (y:=y) (a0h x y f);obtain⟨rr,g1,g2⟩:=(lu _ u).1 v N;have eo:oldC cs (nilF a.f.F y)=v:=by unfold oldC;rw[N];rfl
  rw[eo] at q;refine .read m a.p I a.dx a.pr a.pt a.nd pd D cd t rr n a.fs a.f.rc x y f g false _ _ _ _ _ (.int (if f="first" then v.1 else v.2)) rfl A.hm A.mf l.hp l.ff ht l.hnd lk (kn (.inl hy) (hw y (by simp))) hcd g1 g2 ?_ ?_
  . rcases hfl with rfl|rfl
    . exact .inl ⟨rfl,by rw[if_pos rfl]⟩
    . exact .inr ⟨rfl,by rw[if_neg ag]⟩
  . rw[zd (hw x (by simp) hx)];exact q _ n A.nums (KpM.put O)
 | write y f e' hy hfl he =>
  have e:jy [("write":Str),y,f,e'] a.f.F cs g=(a.f.F,putC cs (nilF a.f.F y) (if f="first" then (nilF a.f.F e',(oldC cs (nilF a.f.F y)).2) else ((oldC cs (nilF a.f.F y)).1,nilF a.f.F e')),g):=((if_neg w2).trans (if_neg w3)).trans (if_pos rfl);have d:wrd (.plain (.row [("write":Str),y,f,e']))=[y,e']:=by show jc "write" [y,f,e']=_;unfold jc;rfl
  rw[d] at hw;rw[e] at q;obtain⟨v,N⟩:=cell (y:=y) (zg y f e');obtain⟨rr,g1,g2⟩:=(lu _ u).1 v N;have eo:oldC cs (nilF a.f.F y)=v:=by unfold oldC;rw[N];rfl
  rw[eo] at q;generalize hvv:(if f="first" then (nilF a.f.F e',v.2) else (v.1,nilF a.f.F e'))=vv at q;refine .write m a.p I a.dx a.pr a.pt a.nd pd D cd t rr n a.fs a.f.rc y f e' g false _ _ _ _ _ _ (.int vv.1) (.int vv.2) rfl A.hm A.mf l.hp l.ff ht l.hnd (kn (.inl hy) (hw y (by simp))) (kn he (hw e' (by simp))) hcd lc g1 g2 ?_ fun c R j ac k1=>?_
  . rcases hfl with rfl|rfl
    . rw[if_pos rfl] at hvv;subst hvv;exact .inl ⟨rfl,rfl,rfl⟩
    . rw[if_neg ag] at hvv;subst hvv;exact .inr ⟨rfl,rfl,rfl⟩
  . have Y:=A.same j;have ab:KI (CellAt K R) kvs cs:=Paired.mapP u fun _ _ z=>z.keep fun b o z _ _ _=>j _ _ z;have M:=Y.cells (a0t (i:=nilF a.f.F y) (v:=vv) (r:=c) ab (SqT.of k1));refine q _ n ?_ ((KpM.of j).trans (KpM.put P));have ef:(a::r).map (·.f)=sf:=A.ef;rw[<- ef] at M;exact M
 | new x j d hx he hd =>
  have e:jy [("new":Str),x,j,d] a.f.F cs g=(upF a.f.F x (g+1),putC cs (g+1) (nilF a.f.F j,nilF a.f.F d),g+1):=(((if_neg w4).trans (if_neg w5)).trans (if_neg w6)).trans (if_pos rfl);have ew:wrd (.plain (.row [("new":Str),x,j,d]))=[x,j,d]:=by show jc "new" [x,j,d]=_;unfold jc;rfl
  rw[ew] at hw;rw[e] at q;have J:n.length<50:=Ba A.lm (by decide);refine .new m a.p I a.dx a.pr a.pt a.nd pd D cd t n a.fs a.f.rc x j d g false _ _ _ _ rfl A.hm A.mf J (fun z=>A.nm (by rw[z];exact Ag)) (fun z=>A.nc (by rw[<- z];exact Ag)) l.hp l.ff ht l.hnd lk (kn he (hw j (by simp))) (kn hd (hw d (by simp))) hcd lc fun c ac=>?_;obtain⟨R,z0,W,k1⟩:=gs ac (.tup [.int (nilF a.f.F j),.int (nilF a.f.F d)]);rw[z0];have Y:=(A.same W).own (A.mf.great J (g+1)) (vz A.mf.greatest);have k2:(upd R m (.ins T I (putF "greatest" (.int (g+1)) n))) c=some (.tup [.int (nilF a.f.F j),.int (nilF a.f.F d)]):=by rw[f6 (fun z=>by have y:=W _ _ A.hm;rw[<- z,k1] at y;cases y)];exact k1
  have Z:KpM (muM m cd D (a::r)) H (upd R m (.ins T I (putF "greatest" (.int (g+1)) n))):=(KpM.of W).trans (KpM.put mm);have U:(upd R m (.ins T I (putF "greatest" (.int (g+1)) n))) cd=some (.dK kvs):=by rw[f6 (fun z=>by have y:=A.hm;rw[<- z,hcd] at y;cases y)];exact W _ _ hcd
  generalize upd R m (.ins T I (putF "greatest" (.int (g+1)) n))=H2 at Y k2 Z U |-;obtain⟨ae,L,af⟩:=Y.C;have ek:kvs=ae:=by rw[U] at L;exact HO.dK.inj (Au L)
  subst ek;have M:=Y.cells (a0t (i:=g+1) (v:=(nilF a.f.F j,nilF a.f.F d)) (r:=c) af (SqT.of k2));have aa:KpM (muM m cd D (a::r)) H (upd H2 cd (.dK (putK kvs (Sum.inl (g+1)) (.ref c)))):=Z.trans (KpM.put P);generalize upd H2 cd (.dK (putK kvs (Sum.inl (g+1)) (.ref c)))=H3 at M aa |-;rw[zd (hw x (by simp) hx)];exact q _ _ M.nums (aa.trans (KpM.put O))
 | free y hy =>
  have e:jy [("free":Str),y] a.f.F cs g=(a.f.F,a1a cs (nilF a.f.F y),g):=(((if_neg w7).trans (if_neg w8)).trans (if_neg w9)).trans (if_neg ai);have d:wrd (.plain (.row [("free":Str),y]))=[y]:=by show jc "free" [y]=_;unfold jc;rfl
  rw[d] at hw;rw[e] at q;obtain⟨v,N⟩:=cell (y:=y) (a0k y);obtain⟨rr,g1,g2⟩:=(lu _ u).1 v N;refine .free m a.p I a.dx a.pr a.pt a.nd pd D cd t n a.fs a.f.rc y g false _ _ _ _ rfl A.hm A.mf l.hp l.ff ht l.hnd (kn (.inl hy) (hw y (by simp))) hcd g1 ?_;have M:=A.cells (a55 (i:=nilF a.f.F y) u);refine q _ n ?_ (KpM.put P);have ef:(a::r).map (·.f)=sf:=A.ef;rw[<- ef] at M;exact M
theorem a4r(a:s.fallen=false)(hs:s.frs=f::fr)(hd:mz pcs f=none):jn pcs s=s:=by
 unfold jn;rw[a,if_neg Ak,hs];simp only[hd]
theorem a5u(a:s.fallen=false)(hs:s.frs=f::fr)(hd:mz pcs f=some d)(hm:o6 s.cs f.F d=true):jn pcs s={s with fallen:=true}:=by
 unfold jn;rw[a,if_neg Ak,hs];simp only[hd,hm,if_true]
theorem a9w(a:s.fallen=false)(hs:s.frs=f::fr)(hd:mz pcs f=some d)(hm:o6 s.cs f.F d=false):jn pcs s=doM pcs s f fr d:=by
 unfold jn;rw[a,if_neg Ak,hs];simp only[hd,hm];exact if_neg Ak
theorem MAt.move{due:Pre×Nat}(A:MAt K l j X pcs m o v n cd H q s (a::r))(hq:SqT K H g ((flat due.1++[(due.2:Int)]).map V.int))(ff:FFs fs' a.pr g a.nd a.f.rc)(lf:fs'.length=a.fs.length)(e:AtP a.pc.body due.1 due.2):MAt K l j X pcs m o v n cd (upd H a.p (.ins j a.dx fs')) q {s with frs:={a.f with pp:=due.1,k:=due.2}::r.map (·.f)} ({a with pt:=g,fs:=fs',f:={a.f with pp:=due.1,k:=due.2}}::r):=by
 have h:=A.S.fr a Ag;have d:m≠a.p:=fun z=>A.nm (by rw[z];exact Ag);have c:a.p≠cd:=fun z=>by obtain⟨kvs,i,_⟩:=A.C;rw[<- z,h.hp] at i;cases i
 refine⟨A.S.move hq ff lf e,rfl,?_,A.xm,A.xc,by rw[f6 d];exact A.hm,A.mf,A.lm,tf A.C c (fun u z=>.inl (by rw[h.hp] at z;exact⟨_,_,_,(Au z).symm⟩)),A.nm,A.nc,by simp⟩;have ch:=A.ch;cases r with
 | nil=>trivial
 | cons b r=>exact⟨ch.1,ch.2⟩
theorem MAt.frames{frs:List Fr}(A:MAt K E G X pcs m I N D cd H F s frs)(M:StAt K G X pcs H' D a)(kp:KpS D frs H H')(n:H' m=some (.ins E I F))(w:Chain a)(q:m∉a.map (·.p))(g:cd∉a.map (·.nd))(r:a≠[]):MAt K E G X pcs m I N D cd H' F {s with frs:=a.map (·.f)} a:=by
 obtain⟨kvs,J,L⟩:=A.C;have out:∀{b:KA} {o:HO},H b=some o->(∀C d f,o≠.ins C d f)->(∀l,o≠.lst l)->b∉frs.map (·.nd)->H' b=some o:=fun {b o} h v u n3=>kp b o h (fun z=>by rw[z,A.S.hfl] at h;exact u _ (Au h).symm) (fun z=>by
  obtain⟨c,hc,e⟩:=AA.mp z;have y:=(A.S.fr c hc).hp;rw[show c.p=b from e,h] at y;exact v _ _ _ (Au y)) n3
 have j:∀{b:KA} {o:HO},H b=some o->(∀kvs,o≠.dK kvs)->b∉frs.map (·.nd):=fun {b o} h i z=>by
  obtain⟨c,hc,e⟩:=AA.mp z;have y:=(A.S.fr c hc).hnd;rw[show c.nd=b from e,h] at y;exact i _ (Au y)
 exact⟨M,rfl,w,A.xm,A.xc,n,A.mf,A.lm,⟨kvs,out J (fun _ _ _ z=>by cases z) (fun _ z=>by cases z) A.nc,Paired.mapP L fun _ _ z=>z.keep fun b o z v u O=>out z v O (j z u)⟩,q,g,r⟩
theorem mem_mu{frs:List Fr}:b∈muM m cd a frs↔b=m\/b=cd\/b=a\/b∈frs.map (·.p)\/b∈frs.map (·.nd):=by
 unfold muM;simp only[Ah,Bu,AA,Av,or_false];constructor
 . rintro (h|h|h|⟨c,hc,h|h⟩)
   . exact .inl h
   . exact .inr (.inl h)
   . exact .inr (.inr (.inl h))
   . exact .inr (.inr (.inr (.inl ⟨c,hc,h.symm⟩)))
   . exact .inr (.inr (.inr (.inr ⟨c,hc,h.symm⟩)))
 . rintro (h|h|h|⟨c,hc,h⟩|⟨c,hc,h⟩)
   . exact .inl h
   . exact .inr (.inl h)
   . exact .inr (.inr (.inl h))
   . exact .inr (.inr (.inr ⟨c,hc,.inl h.symm⟩))
   . exact .inr (.inr (.inr ⟨c,hc,.inr h.symm⟩))
theorem adf:("procedures":Str)≠"fallen" /\ ("frames":Str)≠"fallen" /\ ("cells":Str)≠"fallen" /\ ("greatest":Str)≠"fallen" := by decide
theorem ae9:∀m∈mj,m≠("fallen":Str):=by decide
theorem MFs.fell(h:MFs fs a c cd g b)(hl:fs.length<50):MFs (putF "fallen" (.bl true) fs) a c cd g true:=by
 obtain⟨n1,n2,n3,n4⟩:=adf;refine⟨?_,?_,?_,?_,?_,?_,fun m hm=>?_⟩
 . rw[gn,if_neg n1];exact h.procedures
 . rw[gn,if_neg n2];exact h.frames
 . rw[gn,if_neg n3];exact h.cells
 . rw[gn,if_neg n4];exact h.greatest
 . rw[gn,if_pos rfl]
 . have:=jf "fallen" (.bl true) fs;lia
 . rw[gn,if_neg (ae9 m hm)];exact h.meth m hm
theorem wj:∀{p:Pre}{ds:List Deed},subL ds p=some es->es[k]?=some d->subD d s=some fs->subL ds (p++[(k,s)])=some fs
 | [],ds,h1,h2,h3=>by
  cases h1;show (es[k]?).bind _=_;rw[h2];show (subD d s).bind _=_;rw[h3];rfl
 | (i,u)::p,ds,h1,h2,h3=>by
  unfold subL at h1;obtain⟨d',c,a⟩:=He.mp h1;obtain⟨f,e,b⟩:=He.mp a;show (ds[i]?).bind _=_;rw[c];show (subD d' u).bind _=_;rw[e];exact wj b h2 h3
theorem aa3(e:subL ds p=some es)(hd:es[k]?=some d):∃c,subL ds (t7 F p k d).1=some c/\(t7 F p k d).2<=c.length:=by
 have f:=(Az.mp hd).1;cases d with
 | plain q=>exact⟨es,e,f⟩
 | cond r a b =>
  show ∃c,subL ds (goP (qe F r) "if" p k).1=some c/\(goP (qe F r) "if" p k).2<=c.length;unfold goP;by_cases z:qe F r=true
  . rw[if_pos z];exact⟨a,wj e hd rfl,AH _⟩
  . rw[if_neg z,if_pos rfl];exact⟨b,wj e hd rfl,AH _⟩
 | loop r FF PP a =>
  show ∃c,subL ds (goP (qe F r) "while" p k).1=some c/\(goP (qe F r) "while" p k).2<=c.length;unfold goP;by_cases z:qe F r=true
  . rw[if_pos z];exact⟨a,wj e hd rfl,AH _⟩
  . rw[if_neg z,if_neg (by decide)];exact⟨es,e,f⟩
theorem a9c:places.lookup ("set":Str)=none/\places.lookup ("new":Str)=none/\places.lookup ("call":Str)=none/\places.lookup ("if":Str)=none/\places.lookup ("while":Str)=none/\places.lookup ("read":Str)=some (.int 2)/\places.lookup ("write":Str)=some (.int 1)/\places.lookup ("free":Str)=some (.int 1):=by
 have n:∀x∈([("set":Str),"new","call","if","while"]:List Str),x≠"read" /\ x≠"write" /\ x≠"free" := by decide
 have k:∀x∈([("set":Str),"new","call","if","while"]:List Str),places.lookup x=none:=fun x d=>by
  obtain⟨a,b,c⟩:=n x d;unfold places;simp only[Cf];rw[beq_eq_false_iff_ne.mpr a,beq_eq_false_iff_ne.mpr b,beq_eq_false_iff_ne.mpr c];rfl
 have n2:("write":Str)≠"read" /\ ("free":Str)≠"read" /\ ("free":Str)≠"write" := by decide
 refine⟨k _ (by simp),k _ (by simp),k _ (by simp),k _ (by simp),k _ (by simp),?_,?_,?_⟩
 . unfold places;simp only[Cf,beq_self_eq_true]
 . unfold places;simp only[Cf,beq_self_eq_true];rw[beq_eq_false_iff_ne.mpr n2.1]
 . unfold places;simp only[Cf,beq_self_eq_true];rw[beq_eq_false_iff_ne.mpr n2.2.1,beq_eq_false_iff_ne.mpr n2.2.2]
inductive spStep(K:Ab)(CM CF:KA)(vs:List V)(H:Hp)(Q:VK)(E:XK):Prop
 | mk (X:Hp)(m dm pd fl cd:KA)(fm:List (Str×V))(pcs:List Prc)(s:PM)(frs:List Fr)(prs:List KA)(xs:List Str)(h0:vs=[.ref m])(A:MAt K CM CF X pcs m dm pd fl cd H fm s frs)(P:Pg K X pcs pd prs xs)(hlen:frs.length<=800)(hc:s.cs.length<=800)(q:∀H' fm' frs',MAt K CM CF X pcs m dm pd fl cd H' fm' (jn pcs s) frs'->KpM (muM m cd fl frs) H H'->(∀b∈muM m cd fl frs',b∈muM m cd fl frs\/H b=none)->Q .non H'):spStep K CM CF vs H Q E
theorem adl(bQ:6<=n)(C:Con K mg w)(T:TxM K mg R fI)(U:TxF K mg Z fJ)(F:GM K R "step" "Machine.step" a7g)(GW:MC K mg w R 5 "word" (spWord K R Z))(GD:MC K mg w Z 4 "deed" (wk K Z))(GN:MC K mg w Z 2 "number" (vg Z))(GB:MC K mg w R 6 "branch" (spBranch K Z))(GE:MC K mg w R n "enter" (spEnter K R Z))(GC:MC K mg w R 3 "change" (spChange K R Z))(GM:MC K mg w Z 5 "move" (u9 K Z))(GL:MC K mg w R 5 "leave_ended" (spLeave K R Z))(GK:FC K mg w 1 "cell_name" (spCellName K))(GH:FC K mg w 1 "behind_deed" (spBehind K)):MC K mg w R (n+1) "step" (spStep K R Z):=by
 refine F.ok id 1 ["self","frame","deed","name"] @fun P base f bR A outer s0 H vs Q E hr h nd=>?_;have bw:=l0 hr;have aX:=hr.mono (j:=1) (by lia);have bg:=hr.mono (j:=2) (by lia);have bf:=hr.mono (j:=3) (by lia);have bv:=hr.mono (j:=4) (by lia);have aL:=hr.mono (j:=5) (by lia);have bO:=hr.mono (j:=6) (by lia);refine⟨_,gc (ij (i6 uz (jq (qv 0) T.cl GW aL) i7) (gi a3j) iq)
  (gc (gu 1 nd (gy K (im K (qv 0)) (jx jm dn)))
  (gc (gu 2 nd (jq (qv 1) U.cl GD bv))
  (gc (gu 3 nd (gr GK aX (gj (qv 2) ad)))
  (gc (ij (QW.qt (q3 (i6 adw (qv 3) qd) (ny (a8n bw (kh (qv 1) U.cl GN bg (gj (qv 3) ad)) (im K (qv 0)))))) (gc (kx (K:=K) rfl (qv 0) xb)
  (gi a3j)) iq)
  (gc (ij (tm (adi (K:=K) rfl) (gx K (qv 2) dn) (j5 (ie (ie ad))) (by with_unfolding_all rfl)) (gi (ia (kh (qv 0) T.cl GB bO (gj (qv 1) (gj (qv 2) ad))))) (gi (ij (i6 ig (gx K (qv 2) dn) i7) (gi (ia (kh (qv 0) T.cl GE hr (gj (qv 1) (gj (qv 2) ad))))) (gc (ia (kh (qv 0) T.cl GC bf (gj (qv 1) (gj (qv 2) ad))))
  (gi (ia (kh (qv 1) U.cl GM aL (gw (gr GH aX (jk (im K (qv 1)) ad)) ad))))))))
  (gi (ia (jq (qv 0) T.cl GL aL)))))))),?_⟩
 obtain⟨X,m,dm,pd,fl,cd,fm,pcs,s,frs,a3,xs,rfl,A,PG,a2,bz,q⟩:=h;obtain⟨a,r,rfl⟩:∃a r,frs=a::r:=by
  cases frs with
  | nil=>exact absurd rfl A.ne
  | cons a r=>exact⟨a,r,rfl⟩
 have Sa:=A.S.fr a Ag;obtain⟨v1,v3,v4,hpr⟩:=Sa.hpr;obtain⟨l,ts,es,d1,d2,d3,d4,d5,d6,d7,d8⟩:=Sa.deed;have aG:s.frs=a.f::r.map (·.f):=A.ef.symm;cases hf:s.fallen with
 | true =>
  have mf:=A.mf;rw[hf] at mf;refine⟨_,rfl,m,dm,fm,rfl,A.hm,mf.meth _ (by decide),.fall m dm pd fl cd fm s.g rfl A.hm mf ?_⟩;refine⟨rfl,_,rfl,iteT ?_⟩;refine q H fm (a::r) ?_ (fun _ _ z _=>z) (fun b hb=>.inl hb);rw[show jn pcs s=s from if_pos hf];exact A
 | false =>
 have ma:=A.ma;rw[hf] at ma;refine⟨_,rfl,m,dm,fm,rfl,A.hm,A.mf.meth _ (by decide),.fine m pd fl cd a.p a.pr a.pt a.nd a.bd l _ s.g a.f.rc _ v1 _ v3 v4 a.f.pp a.f.k ts rfl ma (A.S.sX _ _ hpr) Sa.hpt (d1.same A.S.sX) (by lia) (A.S.sX _ _ d2) fun H1 e1=>?_⟩;have A1:=A.same e1;by_cases aE:a.f.k<ts.length
 rotate_left
 . rw[if_neg aE];refine⟨rfl,_,rfl,iteT ?_⟩;refine q H1 fm (a::r) ?_ (KpM.of e1) (fun b hb=>.inl hb);rw[a4r hf aG (by rw[d7,Bx (by lia)])];exact A1
 rw[if_pos aE];refine⟨rfl,_,rfl,iteB (fun c=>absurd c (by simp)) (fun _=>?_)⟩;have al:=A1.S.fr a Ag;have hk:ts[a.f.k]?=some ts[a.f.k]:=Af aE;generalize ts[a.f.k]=t at hk;obtain⟨d,bs,hd,Y⟩:=d8 t hk;have aH:mz pcs a.f=some d:=d7.trans hd;have a8:a.pc∈pcs:=AE Sa.hi;obtain⟨aY,ac⟩:=Sa.word aH;have af:=(PG.ok _ a8).2.2 d aY;refine⟨_,rfl,m,R,dm,fm,_,rfl,A1.hm,T.cl,T.nF,A1.mf.frames,_,rfl,fl,_,_,_,rfl,rfl,SqL.of A1.S.last,jh,?_⟩;refine⟨_,rfl,a.p,a.dx,a.fs,rfl,al.hp,al.ff.meth _ (by simp),a.p,a.dx,a.pr,a.pt,a.nd,a.bd,a.fs,a.f.rc,_,v1,_,v3,v4,rfl,al.hp,al.ff,A1.S.sX _ _ hpr,a.bd,a.pt,l,a.f.pp,a.f.k,ts,rfl,al.hpt,d1.same A1.S.sX,by lia,A1.S.sX _ _ d2,fun t' H2 ab a1=>?_,fun H2 aS _=>by rw[hk] at aS;cases aS⟩;rw[hk] at ab;cases ab;have A2:=A1.same a1;have aV:=e1.trans a1;have N:=A2.S.fr a Ag;dsimp only[gt];refine i5 fun D2 aF _ _=>?_;have am:∀(u:V) (H5:Hp) (W:List (Str×V)) (s5:PM) (M:Fr) (r5:List Fr),MAt K R Z X pcs m dm pd fl cd H5 W s5 (M::r5)->KpM (muM m cd fl (a::r)) H H5->(∀b∈muM m cd fl (M::r5),b∈muM m cd fl (a::r)\/H b=none)->jn pcs s={s5 with frs:=js pcs (r5.length+1) s5.frs}->n0 (ph R "leave_ended" (spLeave K R Z) [] E0 (tVar 0) tNil) {nx:=fun x H'=>Q V.non H',rt:=Q} [some (.ref m),some (.ref a.p),some (.ref t),some u] H5:=fun u H5 W s5 M r5 A5 aB aO bm=>by
  refine⟨_,rfl,m,dm,W,rfl,A5.hm,A5.mf.meth _ (by decide),.mk X m dm pd fl cd W s5.g s5.fallen pcs M r5 rfl A5.hm A5.mf A5.S A5.ch fun H6 a6 r6 S6 bh bu ba bb ao=>?_⟩;refine q H6 W (a6::r6) ?_ (fun b o h n=>?_) (fun b hb=>?_)
  . have A6:=A5.frames S6 ba bb bh (fun z=>?_) (fun z=>?_) (by simp)
    . rw[bu,A5.ef] at A6;rw[bm];exact A6
    . obtain⟨c,hc,e⟩:=AA.mp z;exact A5.nm (by rw[<- e];exact (ao c hc).1)
    . obtain⟨c,hc,e⟩:=AA.mp z;exact A5.nc (by rw[<- e];exact (ao c hc).2)
  . have nb:b∉muM m cd fl (M::r5):=fun z=>(aO b z).elim n fun y=>by rw[h] at y;cases y
    rw[mem_mu] at nb;exact ba b o (aB b o h n) (fun z=>nb (.inr (.inr (.inl z)))) (fun z=>nb (.inr (.inr (.inr (.inl z))))) (fun z=>nb (.inr (.inr (.inr (.inr z)))))
  . refine aO b ?_;rw[mem_mu] at hb |-;rcases hb with h|h|h|h|h
    . exact .inl h
    . exact .inr (.inl h)
    . exact .inr (.inr (.inl h))
    . obtain⟨c,hc,e⟩:=AA.mp h;exact .inr (.inr (.inr (.inl (by rw[<- e];exact (ao c hc).1))))
    . obtain⟨c,hc,e⟩:=AA.mp h;exact .inr (.inr (.inr (.inr (by rw[<- e];exact (ao c hc).2))))
 have aD:a.f.k<es.length:=by lia
 have bp:o6 s.cs a.f.F d=false->jn pcs s=doM pcs s a.f (r.map (·.f)) d:=fun hm=>a9w hf aG aH hm;have lr:(r.map (·.f)).length=r.length:=Ad _;have ae:∀(u:V) (H5:Hp) (W:List (Str×V)) (s5:PM) (M:Fr) (q1:KA) (fs':List (Str×V)) (pl:Pre×Nat),MAt K R Z X pcs m dm pd fl cd H5 W s5 (M::r)->M.p=a.p->M.nd=a.nd->M.pc=a.pc->M.f.i=a.f.i->KpM (muM m cd fl (a::r)) H H5->(∃ah,subL a.pc.body pl.1=some ah/\pl.2<=ah.length)->SqT K H5 q1 ((flat (dueR a.pc.body pl.1.reverse pl.2).1++[((dueR a.pc.body pl.1.reverse pl.2).2:Int)]).map V.int)->FFs fs' M.pr q1 M.nd M.f.rc->fs'.length=M.fs.length->jn pcs s=⟨js pcs (r.length+1) (qm pcs M.f pl::r.map (·.f)),s5.cs,s5.g,s5.fallen⟩->n0 (ph R "leave_ended" (spLeave K R Z) [] E0 (tVar 0) tNil) {nx:=fun x H'=>Q V.non H',rt:=Q} [some (.ref m),some (.ref a.p),some (.ref t),some u] (upd H5 M.p (.ins Z M.dx fs')):=fun u H5 W s5 M q1 fs' pl A5 p1 p2 p3 p4 aB ai hq1 ak bH he=>by
  obtain⟨ah,aw,aq⟩:=ai;obtain⟨_,st,_⟩:=nq Sa.L aw aq;have bD:AtP M.pc.body (dueR a.pc.body pl.1.reverse pl.2).1 (dueR a.pc.body pl.1.reverse pl.2).2:=by rw[p3];exact za Sa.L st
  have A6:=A5.move (due:=dueR a.pc.body pl.1.reverse pl.2) hq1 ak bH bD;refine am u _ W _ _ r A6 (aB.trans (KpM.put (by rw[p1];simp[muM]))) (fun b hb=>.inl ?_) ?_
  . have e:muM m cd fl ({M with pt:=q1,fs:=fs',f:={M.f with pp:=(dueR a.pc.body pl.1.reverse pl.2).1,k:=(dueR a.pc.body pl.1.reverse pl.2).2}}::r)=muM m cd fl (a::r):=by
     show m::cd::fl::(M.p::M.nd::_)=m::cd::fl::(a.p::a.nd::_)
     rw[p1,p2]
    rw[e] at hb;exact hb
  . rw[he];have eb:sk pcs M.f=a.pc.body:=by unfold sk;rw[p4,Sa.hi];rfl
    unfold qm;rw[eb]
 have go:∀u:V,o6 s.cs a.f.F d=false->(u=.non\/∃x,u=.str x/\qj d=some x/\i8 x=true/\x∈wrd d)->D2.nx [some (.ref m),some (.ref a.p),some (.ref t),some u] H2:=fun u D bF=>by
  refine aF _ _ ?_;refine m3 fun D3 a0 _ _=>?_;have main:D3.nx [some (.ref m),some (.ref a.p),some (.ref t),some u] H2:=a0 _ _ (by
   have he:=bp D;clear aF a0;refine m3 fun D4 aA _ _=>?_;obtain⟨wd,us,O⟩:∃(wd:Str) (us:List V),X t=some (.tup (.str wd::us)):=by
    obtain⟨wd,us,h,_⟩:=adm Y;exact⟨wd,us,h⟩
   refine⟨_,rfl,t,_,0,_,rfl,rfl,SqT.of (A2.S.sX _ _ O),at0,(szLn 2),fun p2 bE=>?_⟩;obtain⟨H3,z0,s3,k3⟩:=gs bE (.tup [.str "if",.str "while"]);change H3 p2=some (.tup (([("if":Str),"while"]:List Str).map V.str)) at k3;rw[z0];have J:=A2.same s3;have an:=J.S.fr a Ag;have aj:=aV.trans s3;refine⟨p2,_,rfl,.inr (SqT.of k3),rfl,pw _,_,rfl,?_⟩;rw[oo];have br:∀(ax:Str) (c:KA) (u2 u3:V) (f0 x0 y0:Str),X t=some (.tup [.str ax,.ref c,u2,u3])->X c=some (.tup [.str f0,.str x0,.str y0])->Wd x0->Wd y0->wrd d=[x0,y0]\/(∃zs,wrd d=[x0,y0]++zs)->t7 a.f.F a.f.pp a.f.k d=goP (rh f0 (nilF a.f.F x0) (nilF a.f.F y0)) ax a.f.pp a.f.k->jn pcs s=⟨js pcs (r.length+1) (qm pcs a.f (t7 a.f.F a.f.pp a.f.k d)::r.map (·.f)),s.cs,s.g,s.fallen⟩->∀Q':VK,(∀G,D4.nx [some (.ref m),some (.ref a.p),some (.ref t),some u] G->Q' .non G)->spBranch K Z [.ref m,.ref a.p,.ref t] H3 Q' E0:=fun ax c u2 u3 f0 x0 y0 h1 h2 hx hy bo bt bI Q' q'=>by
    have ai:=aa3 (F:=a.f.F) d3 hd;obtain⟨ah,aw,aq⟩:=ai;obtain⟨e',st,_⟩:=nq Sa.L aw aq;have a4:x0∈wrd d/\y0∈wrd d:=by
     rcases bo with h|⟨zs,h⟩<;>rw[h]<;>simp
    refine .mk m a.p a.dx a.pr a.pt a.nd a.bd t c a.fs a.f.rc ax f0 x0 y0 _ v1 _ v3 v4 u2 u3 _ _ _ a.f.pp a.f.k (dueR a.pc.body (t7 a.f.F a.f.pp a.f.k d).1.reverse (t7 a.f.F a.f.pp a.f.k d).2) e' rfl an.hp an.ff (by have:=an.lf;lia) (J.S.sX _ _ hpr) an.hpt (J.S.sX _ _ h1) (SqT.of (J.S.sX _ _ h2)) an.hnd (kn hx (ac x0 a4.1)) (kn hy (ac y0 a4.2)) (by lia) (by rw[<- bt];exact st.same J.S.sX) fun q1 fs' H4 e4 hq1 ak bi _=>q' _ (aA _ _ ?_);exact ae u H4 fm s a q1 fs' (t7 a.f.F a.f.pp a.f.k d) (J.same e4) rfl rfl rfl rfl (KpM.of (aj.trans e4)) ⟨ah,aw,aq⟩ hq1 ak bi bI
   rw[if_neg Ak];cases d with
   | cond cr ca cb =>
    obtain⟨f0,x0,y0,rfl,hx,hy⟩:=af;cases Y with
    | cond c i o _ _ _ h hc okr hi ho =>
     have eh:=h;rw[O] at eh;cases eh;exact iteB (fun _=>⟨_,rfl,m,dm,fm,rfl,J.hm,J.mf.meth _ (by decide),_,rfl,_,rfl,br "if" c _ _ f0 x0 y0 h hc hx hy (.inl rfl) rfl (by rw[he,hf,<- lr];rfl) _ fun G hG=>hG⟩) (fun c=>absurd (by simp) (of_decide_eq_false c))
   | loop cr FF PP ca =>
    obtain⟨f0,x0,y0,rfl,hx,hy⟩:=af;cases Y with
    | loop c td i fa pa _ _ _ _ h hc =>
     have eh:=h;rw[O] at eh;cases eh;exact iteB (fun _=>⟨_,rfl,m,dm,fm,rfl,J.hm,J.mf.meth _ (by decide),_,rfl,_,rfl,br "while" c _ _ f0 x0 y0 h hc hx hy (.inr ⟨_,rfl⟩) rfl (by rw[he,hf,<- lr];rfl) _ fun G hG=>hG⟩) (fun c=>absurd (by simp) (of_decide_eq_false c))
   | plain pl =>
    cases pl with
    | row w =>
     have I:X t=some (.tup (w.map V.str)):=by cases Y with|plain _ h1 _=>exact h1
     obtain⟨w0,rest,ew,n1,n2,n3⟩:∃(w0:Str) (rest:List Str),w=w0::rest/\w0≠"if" /\ w0≠"while" /\ w0≠"call" := by
      cases af<;>exact⟨_,_,rfl,by decide,by decide,by decide⟩
     have a7:wd=w0:=by
      have y:=I;rw[ew,O] at y;injection y with y;injection y with y;injection y with y _;injection y
     refine iteB (fun c=>absurd (of_decide_eq_true c) (by rw[a7];simp[n1,n2])) (fun _=>?_);refine⟨_,rfl,t,_,0,_,rfl,rfl,SqT.of (J.S.sX _ _ O),at0,rfl,_,rfl,iteB (fun c=>absurd (V.str.inj (of_decide_eq_true c)) (by rw[a7];exact n3)) (fun _=>?_)⟩;refine⟨_,rfl,m,dm,fm,rfl,J.hm,J.mf.meth _ (by decide),_,rfl,_,rfl,J.change hf af ac (J.S.sX _ _ I) D bz fun H4 bP A4 av=>?_⟩;have aa:=A4.S.fr _ Ag;refine⟨_,rfl,a.p,a.dx,a.fs,rfl,aa.hp,aa.ff.meth _ (by simp),?_⟩;refine⟨_,rfl,a.p,Z,a.dx,a.fs,_,rfl,aa.hp,U.cl,U.nA,aa.ff.path,.mk a.pt (flat a.f.pp) (a.f.k:Int) rfl aa.hpt (by rw[mi];lia) fun q0 H5 e5 bA=>?_⟩;obtain⟨e',st,_⟩:=nq Sa.L d3 (show a.f.k+1<=es.length from aD);refine⟨a.p,a.dx,a.pr,a.pt,a.nd,a.bd,q0,a.fs,a.f.rc,_,v1,_,v3,v4,a.f.pp,a.f.k+1,_,e',rfl,e5 _ _ aa.hp,aa.ff,(by have:=Sa.lf;lia),e5 _ _ (A4.S.sX _ _ hpr),bA,(st.same A4.S.sX).same e5,(by lia),fun q1 fs' H6 e6 hq1 ak bB _=>aA _ _ ?_⟩;exact ae u H6 bP ⟨{a.f with F:=(jy w a.f.F s.cs s.g).1}::r.map (·.f),(jy w a.f.F s.cs s.g).2.1,(jy w a.f.F s.cs s.g).2.2,false⟩ {a with f:={a.f with F:=(jy w a.f.F s.cs s.g).1}} q1 fs' (a.f.pp,a.f.k+1) (A4.same (e5.trans e6)) rfl rfl rfl rfl (((KpM.of aj).trans av).trans (KpM.of (e5.trans e6))) ⟨es,d3,aD⟩ hq1 ak bB (by rw[he,<- lr];rfl)
    | call x c ws =>
     obtain⟨hx,bj,pc,ag,aP,bG,a9⟩:=af;obtain⟨v,ab,hv⟩:PlAt X t (.call x c ws):=by cases Y with|plain _ h1 _=>exact h1
     have eh:=ab;rw[O] at eh;cases eh;refine iteB (fun c=>absurd (of_decide_eq_true c) (by decide)) (fun _=>?_);refine⟨_,rfl,t,_,0,_,rfl,rfl,SqT.of (J.S.sX _ _ O),at0,rfl,_,rfl,iteB (fun _=>?_) (fun c=>absurd c (by simp))⟩;have aZ:pc∈pcs:=AE ag;have bn:=(Az.mp ag).1;obtain⟨aC,ay⟩:∃aC,a3[idxP pcs c]?=some aC:=⟨_,Af (by rw[Ay PG.hps];exact bn)⟩
     have bC:=Paired.at2 PG.hps ay ag;have aU:=a25 (ns:=pcs.map (·.name)) (ts:=a3) (n:=c) PG.nn (by rw[Am,ag];show some pc.name=_;rw[aP]) ay;have bJ:m≠a.p:=fun z=>A.nm (by rw[z];exact Ag);refine⟨_,rfl,m,dm,fm,rfl,J.hm,J.mf.meth _ (by decide),_,rfl,_,rfl,.mk X m dm pd fl cd t v aC fm s.g s.fallen pcs a r x c ws xs _ pc (idxP pcs c) es rfl ⟨J.hm,bJ⟩ J.mf J.S ab hv (fun w hw=>(bj w hw).elim (fun z=>AD _ (ac w (Al _ hw) z)) (fun z=>AG _ (Ap.mpr z))) PG.hpd aU bC (PG.ok pc aZ).1 bG (PG.ok pc aZ).2.1 d3 aD ag (by rw[AB] at a2;lia) fun H4 n a' S4 en aR ea ep az aQ aW aJ aK av be=>aA _ _ ?_⟩;have Sn:=S4.fr n Ag;have bN:Chain (n::a'::r):=by
      refine⟨?_,?_⟩
      . unfold a11;rw[en,aR,aQ];rcases a9 with z|z
        . exact .inl z
        . rcases hx with y|y
          . exact .inl y
          . refine .inr ⟨(Sn.ym _).mpr ⟨z,?_⟩,ac x Ag y⟩;rw[aR];unfold allW;simp
      . have ch:=A.ch;cases r with
        | nil=>trivial
        | cons b r =>
         refine⟨?_,ch.2⟩;have c1:=ch.1;unfold a11 at c1 |-;rw[ea,aW,aQ];exact c1
     have bc:m∉(n::a'::r).map (·.p):=fun z=>by
      rcases Ah.mp z with y|y
      . rw[show n.p=m from y.symm,J.hm] at aJ;cases aJ
      . exact A.nm (by rw[As] at y |-;rw[<- ep];exact y)
     have bM:cd∉(n::a'::r).map (·.nd):=fun z=>by
      rcases Ah.mp z with y|y
      . obtain⟨kvs,h1,_⟩:=J.C;rw[show n.nd=cd from y.symm,h1] at aK;cases aK
      . exact A.nc (by rw[As] at y |-;rw[<- az];exact y)
     have A4:=J.frames S4 av be bN bc bM (by simp);refine am u H4 fm _ n (a'::r) A4 (fun b o h nb=>?_) (fun b hb=>?_) ?_
     . rw[mem_mu] at nb;exact av b o (aj _ _ h) (fun z=>nb (.inr (.inr (.inl z)))) (fun z=>nb (.inr (.inr (.inr (.inl z))))) (fun z=>nb (.inr (.inr (.inr (.inr z)))))
     . rw[mem_mu] at hb |-;rcases hb with h|h|h|h|h
       . exact .inl (.inl h)
       . exact .inl (.inr (.inl h))
       . exact .inl (.inr (.inr (.inl h)))
       . rcases Ah.mp h with y|y
         . exact .inr (by rw[y];exact aj.free aJ)
         . exact .inl (.inr (.inr (.inr (.inl (by rw[As] at y |-;rw[<- ep];exact y)))))
       . rcases Ah.mp h with y|y
         . exact .inr (by rw[y];exact aj.free aK)
         . exact .inl (.inr (.inr (.inr (.inr (by rw[As] at y |-;rw[<- az];exact y)))))
     . rw[he];show PM.mk (js pcs ((r.map (·.f)).length+2) (⟨idxP pcs c,[],0,ux (psP pcs (idxP pcs c)) ws a.f.F,x⟩::qm pcs a.f (a.f.pp,a.f.k+1)::r.map (·.f))) s.cs s.g false=⟨js pcs ((a'::r).length+1) ((n::a'::r).map (·.f)),s.cs,s.g,s.fallen⟩
       rw[hf,lr,As,As,en,ea,show psP pcs (idxP pcs c)=pc.ps by unfold psP;rw[ag];rfl];rfl)
  rcases bF with rfl|⟨x,rfl,hx,au,ar⟩
  . exact⟨_,rfl,rfl,_,rfl,iteB (fun c=>absurd c (by simp)) (fun _=>(if_neg Ak).mpr main)⟩
  . obtain⟨kvs,hcd,aN⟩:=A2.C;obtain⟨v,hv⟩:∃v,getC s.cs (nilF a.f.F x)=some v:=by
     unfold o6 at D;rw[hx] at D;cases e:getC s.cs (nilF a.f.F x) with
     | none=>simp only[e] at D;cases D
     | some v=>exact⟨v,rfl⟩
    obtain⟨rr,g1,_⟩:=(lu _ aN).1 v hv;have hg:=DGet.k (k:=Sum.inl (nilF a.f.F x)) hcd;rw[g1] at hg;refine⟨_,rfl,rfl,_,rfl,iteB (fun _=>?_) (fun c=>absurd c (by simp))⟩;refine⟨_,rfl,a.p,a.dx,a.fs,rfl,N.hp,N.ff.meth _ (by simp),_,rfl,a.p,a.dx,a.pr,a.pt,a.nd,a.fs,a.f.rc,x,rfl,N.hp,N.ff,li N.hnd (kn (.inl au) (ac x ar)) ?_⟩;exact⟨_,rfl,m,R,dm,fm,_,rfl,A2.hm,T.cl,T.nC,A2.mf.cells,cd,_,rfl,hg,_,rfl,(if_neg Ak).mpr main⟩
 have cn:∃(wd:Str) (us:List V),X t=some (.tup (.str wd::us))/\((places.lookup wd=none/\qj d=none)\/∃(k:Nat) (x:Str),places.lookup wd=some (.int (k:Int))/\(V.str wd::us)[k]?=some (.str x)/\qj d=some x/\i8 x=true/\x∈wrd d):=by
  obtain⟨p1,p2,p3,p4,p5,p6,p7,p8⟩:=a9c;cases d with
  | cond cr ca cb=>cases Y with|cond c i o _ _ _ h=>exact⟨_,_,h,.inl ⟨p4,rfl⟩⟩
  | loop cr FF PP ca=>cases Y with|loop c td i fa pa _ _ _ _ h=>exact⟨_,_,h,.inl ⟨p5,rfl⟩⟩
  | plain pl =>
   cases pl with
   | call x c ws =>
    obtain⟨v,ab,hv⟩:PlAt X t (.call x c ws):=by cases Y with|plain _ h1 _=>exact h1
    exact⟨_,_,ab,.inl ⟨p3,rfl⟩⟩
   | row w =>
    have I:X t=some (.tup (w.map V.str)):=by cases Y with|plain _ h1 _=>exact h1
    obtain⟨w1,w2,w3,w4,w5,w6,w7,w8,w9,bL,bS⟩:=wd_ne;cases af with
    | set x y hx hy=>exact⟨_,_,I,.inl ⟨p1,by rw[qa,if_neg (show wAt [("set":Str),x,y] 0≠"read" from w1.symm),if_neg (show wAt [("set":Str),x,y] 0≠"write" from w2.symm),if_neg (show wAt [("set":Str),x,y] 0≠"free" from w7.symm)]⟩⟩
    | new x e1 e2 hx=>exact⟨_,_,I,.inl ⟨p2,by rw[qa,if_neg (show wAt [("new":Str),x,e1,e2] 0≠"read" from w5),if_neg (show wAt [("new":Str),x,e1,e2] 0≠"write" from w6),if_neg (show wAt [("new":Str),x,e1,e2] 0≠"free" from bL.symm)]⟩⟩
    | read x y f hx hy hfl=>exact⟨_,_,I,.inr ⟨2,y,p6,rfl,a0h x y f,hy,by show y∈jc "read" [x,y,f];unfold jc;exact Al _ Ag⟩⟩
    | write y f e' hy hfl he=>exact⟨_,_,I,.inr ⟨1,y,p7,rfl,zg y f e',hy,by show y∈jc "write" [y,f,e'];unfold jc;exact Ag⟩⟩
    | free y hy=>exact⟨_,_,I,.inr ⟨1,y,p8,rfl,a0k y,hy,by show y∈jc "free" [y];unfold jc;exact Ag⟩⟩
 obtain⟨wd,us,O,bq⟩:=cn;rcases bq with⟨aI,ap⟩|⟨k,x,aI,bx,ap,au,ar⟩
 . exact⟨_,rfl,.none t wd us rfl (SqT.of (A2.S.sX _ _ O)) aI (go .non (by unfold o6;rw[ap]) (.inl rfl))⟩
 . refine⟨_,rfl,.some t wd us k (.str x) rfl (SqT.of (A2.S.sX _ _ O)) aI bx ?_⟩;cases D:o6 s.cs a.f.F d with
   | false=>exact go (.str x) D (.inr ⟨x,rfl,ap,au,ar⟩)
   | true =>
    have aM:getC s.cs (nilF a.f.F x)=none:=by
     unfold o6 at D;rw[ap] at D;cases e:getC s.cs (nilF a.f.F x) with
     | none=>rfl
     | some v=>simp only[e] at D;cases D
    obtain⟨kvs,hcd,aN⟩:=A2.C;have hg:=DGet.k (k:=Sum.inl (nilF a.f.F x)) hcd;rw[(lu _ aN).2 aM] at hg;refine aF [rQ m,rQ a.p,rQ t,some (.str x)] _ ?_;refine⟨_,rfl,rfl,_,rfl,iteB (fun _=>?_) (fun c=>absurd c (by simp))⟩;refine⟨_,rfl,a.p,a.dx,a.fs,rfl,N.hp,N.ff.meth _ (by simp),_,rfl,a.p,a.dx,a.pr,a.pt,a.nd,a.fs,a.f.rc,x,rfl,N.hp,N.ff,li N.hnd (kn (.inl au) (ac x ar)) ?_⟩;refine⟨_,rfl,m,R,dm,fm,_,rfl,A2.hm,T.cl,T.nC,A2.mf.cells,cd,none,rfl,hg,_,rfl,(if_pos rfl).mpr ?_⟩;have aT:fm.length<50:=Ba A.lm (by decide);refine⟨_,rfl,m,R,dm,fm,rfl,A2.hm,T.cl,T.nL,by lia,?_⟩;have J:=A2.own (A2.mf.fell aT) (vz A2.mf.fallen);refine q _ (putF "fallen" (.bl true) fm) (a::r) ?_ ((KpM.of aV).trans (KpM.put (by simp[muM]))) (fun b hb=>.inl hb);rw[a5u hf aG aH D];exact J
abbrev a3u:KN:=jz (top 29) 2
noncomputable def o7(pcs:List Prc)(s:PM):Str:=if s.fallen=true then "fall" else match s.frs with
 | [] => "end"
 | f::_=>if (mz pcs f).isSome=true then "on" else "end"
noncomputable def vr(pcs:List Prc)(s:PM):Option (Str×Pre×Nat):=if o7 pcs s="end" then none else match s.frs with
 | []=>none
 | f::_=>some (((pcs[f.i]?).map (·.name)).getD "",f.pp,f.k)
noncomputable def WhereAt(K:Ab)(H:Hp)(v:V):Option (Str×Pre×Nat)->Prop
 | none=>v=.non
 | some (nm,pp,k)=>∃r pt,v=.ref r/\H r=some (.tup [.str nm,.ref pt])/\SqT K H pt ((flat pp++[(k:Int)]).map V.int)
theorem MAt.word(A:MAt K j w X pcs m D e h cd H v s (a::r))(q:∀H',Same H H'->Q (.str (o7 pcs s)) H'):spWord K j w [.ref m] H Q E:=by
 have d:=A.S.fr a Ag;obtain⟨y,u,F,hpr⟩:=d.hpr;obtain⟨l,ts,es,n,G,N,L,M,J,C,I⟩:=d.deed;have c:s.frs=a.f::r.map (·.f):=A.ef.symm;unfold o7 at q;cases hf:s.fallen with
 | true =>
  have mf:=A.mf;rw[hf] at mf;rw[hf,if_pos rfl] at q;exact .fall m D e h cd v s.g rfl A.hm mf (q H (Same.refl _))
 | false =>
  have ma:=A.ma;rw[hf] at ma;rw[hf,if_neg Ak,c] at q;refine .fine m e h cd a.p a.pr a.pt a.nd a.bd l _ s.g a.f.rc _ y _ u F a.f.pp a.f.k ts rfl ma (A.S.sX _ _ hpr) d.hpt (n.same A.S.sX) (by lia) (A.S.sX _ _ G) fun i o=>?_;have b:=q i o;dsimp only at b;rw[C] at b;by_cases z:a.f.k<ts.length
  . rw[if_pos z];rw[Af (by lia)] at b;exact b
  . rw[if_neg z];rw[Bx (by lia)] at b;exact b
inductive spWhere(K:Ab)(CM CF:KA)(vs:List V)(H:Hp)(Q:VK)(E:XK):Prop
 | mk (X:Hp)(m dm pd fl cd:KA)(fm:List (Str×V))(pcs:List Prc)(s:PM)(a:Fr)(r:List Fr)(h0:vs=[.ref m])(A:MAt K CM CF X pcs m dm pd fl cd H fm s (a::r))(q:∀v H',Same H H'->WhereAt K H' v (vr pcs s)->Q v H'):spWhere K CM CF vs H Q E
theorem a8u(C:Con K mg w)(T:TxM K mg e W)(U:TxF K mg g Z)(F:GM K e "where" "Machine.where" a3u)(J:MC K mg w e 5 "word" (spWord K e g)):MC K mg w e 6 "where" (spWhere K e g):=by
 refine F.ok id 1 ["self"] @fun P base f I A outer R H vs Q E hr h nd=>?_;refine⟨_,gc (ij (i6 ig (jq (qv 0) T.cl J hr) i7) (gi (gz qd)) iq)
  (gi (gz (j5 (gq (gx K (im K (gy K (im K (qv 0)) (jx jm dn))) dn) (jk (im K (gy K (im K (qv 0)) (jx jm dn))) ad))))),?_⟩
 obtain⟨X,m,u,N,y,cd,l,pcs,s,a,r,rfl,A,q⟩:=h;refine⟨_,rfl,m,u,l,rfl,A.hm,A.mf.meth _ (by decide),A.word fun D j=>?_⟩;have d:=A.same j;have b:=d.S.fr a Ag;obtain⟨O,M,Y,hpr⟩:=b.hpr;have o:s.frs=a.f::r.map (·.f):=A.ef.symm;unfold vr at q;refine⟨rfl,_,rfl,iteB (fun c=>?_) (fun c=>?_)⟩
 . rw[if_pos (V.str.inj (of_decide_eq_true c))] at q;exact q .non D j rfl
 . rw[if_neg (fun z=>of_decide_eq_false c (by rw[z])),o] at q;have n:((pcs[a.f.i]?).map (·.name)).getD ("":Str)=a.pc.name:=by rw[b.hi];rfl
   dsimp only at q;rw[n] at q;exact⟨_,rfl,m,e,u,l,_,rfl,d.hm,T.cl,T.nF,A.mf.frames,_,rfl,y,_,_,_,rfl,rfl,SqL.of d.S.last,jh,a.p,g,a.dx,a.fs,_,rfl,b.hp,U.cl,U.nP,b.ff.procedure,a.pr,_,0,_,rfl,rfl,SqT.of (d.S.sX _ _ hpr),at0,_,rfl,m,e,u,l,_,rfl,d.hm,T.cl,T.nF,A.mf.frames,_,rfl,y,_,_,_,rfl,rfl,SqL.of d.S.last,jh,a.p,g,a.dx,a.fs,_,rfl,b.hp,U.cl,U.nA,b.ff.path,(szLn 2),fun r hr=>q (.ref r) _ (j.trans (gk hr _)) ⟨r,a.pt,rfl,g8,(gk hr _).seqT b.hpt⟩⟩
abbrev a6x:KN:=top 43
inductive spValue(vs:List V)(H:Hp)(Q:VK)(E:XK):Prop
 | mk (dl sl:KA)(n:Int)(ss:List Int)(h0:vs=[.ref dl,.ref sl])(h1:H dl=some (.lst [.int n]))(h2:H sl=some (.lst (ss.map V.int)))(h3:ss.length=6)(q:∀(v n':Int) H',jt dl H H'->H' dl=some (.lst [.int n'])->Q (.int v) H'):spValue vs H Q E
theorem aak(C:Con K mg w)(F:GF K "_law_value" a6x)(D:FC K mg w 1 "_law_digit" nh):FC K mg w 2 "_law_value" spValue:=by
 refine F.ok C.gf 2 ["_law_digits","_law_spots","_law_at"] fun H vs Q E hr h nd=>?_;obtain⟨dl,I,n,a,rfl,G,g,m,q⟩:=h;refine⟨_,gc (gu 2 nd (gr D hr (gj (qv 0) (i0 ad))))
  (gc (ij (i6 ig (qv 2) dn) (gi (gz (gr D hr (gj (qv 0) (jb (gp zh dn dn) ad))))) iq)
  (gi (gz (gy K (gp ky (qv 1) (i9 (i0 (i0 ad)))) (qv 2))))),?_⟩
 have r:I≠dl:=fun z=>by
  rw[z,G] at g;have:=congrArg Ht (HO.lst.inj (Au g));rw[Ad,m] at this;simp at this
 refine⟨_,rfl,dl,n,9,rfl,G,(by decide),(by decide),?_⟩;have k1:(upd H dl (.lst [.int (n / 9)])) dl=some (.lst [.int (n / 9)]):=g8;have e:jt dl H (upd H dl (.lst [.int (n / 9)])):=fun b o z nb=>by rw[f6 nb];exact z
 dsimp only[gt];generalize upd H dl (.lst [.int (n / 9)])=v at e k1 |-;have N:=BD n (show (9:Int)≠0 by decide);have J:=B7 n (show (0:Int)<9 by decide);refine⟨_,rfl,rfl,_,rfl,iteB (fun _=>?_) (fun hc=>?_)⟩
 . refine⟨_,rfl,_,_,rfl,rfl,(show CPow 10 60 from⟨by decide,by decide,by decide⟩),dl,_,_,rfl,k1,(by decide),(by decide),?_⟩;exact q _ _ _ (fun b o z nb=>by rw[f6 nb];exact e b o z nb) g8
 . have R:n % 9<8:=by
    rcases Int.lt_or_eq_of_le (show n % 9<=8 by lia) with z|z
    . exact z
    . rw[z] at hc;exact absurd hc (by decide)
   refine⟨_,rfl,(szLn 2),fun p hp=>?_⟩;obtain⟨y,z0,d,k2⟩:=gs hp (.lst [V.int 0,V.int 7]);rw[z0];refine⟨I,p,_,_,rfl,rfl,d _ _ (e _ _ g r),k2,io (by rw[Ad,m];decide),fun p3 u=>?_⟩;obtain⟨W,z1,s,k3⟩:=gs u (.lst (a.map V.int++[V.int 0,V.int 7]));rw[z1];have L:a.map V.int++[V.int 0,V.int 7]=(a++[0,7]).map V.int:=by rw[Ax];rfl
   obtain⟨j,S⟩:∃j:Nat,n % 9=(j:Int):=⟨(n % 9).toNat,by lia⟩
   have l:j<(a++[0,7]).length:=by rw[Ai,m];show j<6+2;lia
   refine⟨_,rfl,p3,_,_,.int (a++[0,7])[j],rfl,rfl,SqL.of k3,?_,?_⟩
   . rw[S,L];exact jg (by rw[Am,Af l];rfl)
   . exact q _ _ _ (fun b o z nb=>s _ _ (d _ _ (e b o z nb))) (s _ _ (d _ _ k1))
abbrev abm:KN:=top 44
noncomputable def CellsU(H:Hp)(hp:List (Int×KA)):Prop:=∀p∈hp,∃u v:Int,H p.2=some (.tup [.int u,.int v])
theorem CellsU.same(h:CellsU H hp)(e:Same H H'):CellsU H' hp:=fun p z=>by obtain⟨u,v,y⟩:=h p z;exact⟨u,v,e _ _ y⟩
theorem CellsU.keep(h:CellsU H hp)(e:∀b vs,H b=some (.tup vs)->H' b=some (.tup vs)):CellsU H' hp:=by grind [CellsU]
noncomputable def putH(hp:List (Int×KA))(x:Int)(r:KA):List (Int×KA):=if x∈hp.map (·.1) then hp.map (fun p=>if p.1=x then (p.1,r) else p) else hp++[(x,r)]
theorem afd(hp:List (Int×KA))(x:Int)(r:KA):putK (hK hp) (Sum.inl x) (.ref r)=hK (putH hp x r):=by
 unfold putH;by_cases h:x∈hp.map (·.1)
 . rw[if_pos h];unfold putK hK;have e:((hp.map fun p=>((Sum.inl p.1:Key),V.ref p.2)).any fun kv=>decide (kv.1=(Sum.inl x:Key)))=true:=by
    obtain⟨p,a,rfl⟩:=AA.mp h;exact List.any_eq_true.mpr ⟨_,AA.mpr ⟨p,a,rfl⟩,decide_eq_true rfl⟩
   rw[e,if_pos rfl,BA,BA];refine BZ fun p _=>?_;show (if (Sum.inl p.1:Key)=Sum.inl x then _ else _)=((Sum.inl (if p.1=x then (p.1,r) else p).1:Key),V.ref (if p.1=x then (p.1,r) else p).2)
   by_cases e:p.1=x
   . rw[if_pos (by rw[e]),if_pos e]
   . rw[if_neg (fun z=>e (Kf z)),if_neg e]
 . rw[if_neg h];exact aeu h
theorem a0i:(putH hp x r).map (·.1)=if x∈hp.map (·.1) then hp.map (·.1) else hp.map (·.1)++[x]:=by
 unfold putH;split
 . rw[BA];refine BZ fun p _=>?_;show (if p.1=x then (p.1,r) else p).1=p.1;split<;>rfl
 . rw[Ax];rfl
theorem aa0(h:p∈putH hp x r):p∈hp\/p.2=r:=by grind [putH]
theorem a9m:(putH hp x r).length<=hp.length+1:=by grind [putH]
theorem a54(h:(hp.map (·.1)).Nodup):((putH hp x r).map (·.1)).Nodup:=by
 rw[a0i];split
 . exact h
 . rename_i hn;exact ED.mpr ⟨h,E8 _ _,fun y a z hz e=>hn (by rw[<- Ap.mp hz,<- e];exact a)⟩
theorem aac(h:k∈(putH hp x r).map (·.1)):k∈hp.map (·.1)\/k=x:=by grind [a0i]
structure HpL(H':Hp)(d sl:KA)(hp:List (Int×KA))(ss:List Int):Prop where
 hd:H' d=some (.dK (hK hp))
 hs:H' sl=some (.lst (ss.map V.int))
 ls:ss.length=6
 cu:CellsU H' hp
 nd:(hp.map (·.1)).Nodup
 pos:∀k∈hp.map (·.1),0<k/\k<1000000000000000000000000000000000000000000000000000000000000
 sp:∀s∈ss,0<s/\s<1000000000000000000000000000000000000000000000000000000000000
theorem HpL.same(h:HpL H' d b hp c)(e:Same H' a):HpL a d b hp c:=⟨e _ _ h.hd,e _ _ h.hs,h.ls,h.cu.same e,h.nd,h.pos,h.sp⟩
theorem HpL.x(h:HpL H' d f hp g)(a:H' dl=some (.lst xs))(ne:f≠dl)(e:jt dl H' c):HpL c d f hp g :=
 ⟨e _ _ h.hd (fun z=>by have:=h.hd;rw[z,a] at this;cases this),e _ _ h.hs ne,h.ls,h.cu.keep fun b vs hb=>e _ _ hb (fun z=>by rw[z,a] at hb;cases hb),h.nd,h.pos,h.sp⟩
inductive spHeapL(K:Ab)(vs:List V)(H:Hp)(Q:VK)(E:XK):Prop
 | mk (a:KA)(ns:List Int)(st:Nat)(h0:vs=[.ref a,.int (st:Int)])(hS:SqL K H a (ns.map V.int))(q:∀t d sl hp ss H',Same H H'->H d=none->H sl=none->H' t=some (.tup [.ref d,.ref sl])->HpL H' d sl hp ss->hp.length<=6->Q (.ref t) H'):spHeapL K vs H Q E
inductive HL(H:Hp)(a d sl:KA)(st:Nat)(z3 z4 z5:Option V)(i:Nat)(σ:St)(H':Hp):Prop
 | mk (dl:KA)(n:Int)(hp:List (Int×KA))(ss:List Int)(z8:Option V)(e:Same H H')(nd:H dl=none)(ne:sl≠dl)(hdl:H' dl=some (.lst [.int n]))(I:HpL H' d sl hp ss)(hl:hp.length<=i)(hσ:σ=[rQ a,iQ (st:Int),rQ dl,z3,z4,z5,rQ sl,rQ d,z8])
theorem a9n(C:Con K mg w)(F:GF K "_law_heap" abm)(GC:FC K mg w 1 "_law_cell_at" (uc K))(GF:FC K mg w 2 "_law_fed" yw)(GD:FC K mg w 1 "_law_digit" nh)(GV:FC K mg w 2 "_law_value" spValue):FC K mg w 3 "_law_heap" (spHeapL K):=by
 refine F.ok C.gf 2 ["_law_script","_law_start","_law_digits","_law_ways","_law_step","_law_base","_law_spots","_law_heap_here","_law_k"] fun H vs Q E hr h nd=>?_;obtain⟨a,ns,st,rfl,hS,q⟩:=h;have a2:=l0 hr;have J:=hr.mono (j:=1) (by lia);refine⟨_,gc (gu 2 nd (gr GF hr (gw (gr GC J (gj (qv 0) (gj (qv 1) ad))) (i0 ad))))
  (gc (gu 3 nd (i9 (gw (gr GD J (gj (qv 2) (i0 ad))) (gw (gr GD J (gj (qv 2) (i0 ad))) ad))))
  (gc (yu (i:=4) nd rfl (Or.inr rfl) (gy K (i9 (i0 (i0 (jb (gp ir dn (gr GD J (gj (qv 2) (jb (gp zh dn dn) ad)))) ad)))) (gy K (qv 3) dn)))
  (gc (yu (i:=5) nd rfl (Or.inr rfl) (gy K (i9 (i0 (i0 (jb (gp ir dn (gr GD J (gj (qv 2) (jb (gp zh dn dn) ad)))) ad)))) (gy K (qv 3) dn)))
  (gc (qy ["_law_k","_law_step","_law_base"] [4,5] (i:=6) nd rfl (Or.inl rfl) (kj rfl C.range (i0 ad)) (fun _ _ _ _=>mn) (fun _ _ _ _=>(gp ir (qv 2) (gp ri (qv 0) (qv 1)))))
  (gc (gu 7 nd a03)
  (gc (jv AN rfl (kj rfl C.range (i0 ad)) (jd 8 nd) (gc (ij (i6 ig (gp ji (qv 8) dn) dn) (gi (gu 2 nd (gr GF hr (gw (gr GC J (gj (qv 0) (jb (gp ir (gp ir (qv 1) dn) (gp kg (qv 8) dn)) ad))) (jb (gp ir dn (qv 8)) ad))))) iq)
  (gc (ij (i6 ig (gr GD J (gj (qv 2) (i0 ad))) dn) (gi (pq (gp ir dn (gr GD J (gj (qv 2) (jb (gp a74 (gp zh dn dn) dn) ad)))) (yy (qv 6) (qv 8) v6))) iq)
  (gi (ij (i6 xj (gr GD J (gj (qv 2) (i0 ad))) dn) (gi (km a2 (qv 7) (gy K (qv 6) (qv 8)) (j5 (gw (gr GV hr (gj (qv 2) (gj (qv 6) ad))) (gw (gr GV hr (gj (qv 2) (gj (qv 6) ad))) ad))))) iq)))))
  (gi (gz (j5 (gj (qv 7) (gj (qv 6) ad))))))))))),?_⟩
 have c:(0:Int)<10 ^ (50:Int).toNat/\(10:Int) ^ (50:Int).toNat<=10 ^ 60:=by decide
 have M:(0:Int)<10 ^ (59:Int).toNat-1/\(10:Int) ^ (59:Int).toNat-1<=10 ^ 60:=by decide
 have h3:∀n:Int,∃j:Nat,n % 3=(j:Int)/\j<3:=fun n=>⟨(n % 3).toNat,by have:=BD n (show (3:Int)≠0 by decide);lia,by have:=B7 n (show (0:Int)<3 by decide);lia⟩
 refine i5 fun A1 aI _ _=>?_;refine⟨_,rfl,_,rfl,a,ns,st,rfl,hS,_,1,rfl,fun dl S=>?_⟩;have D1:DI H dl (upd H dl (.lst [.int (fedF (ln ns st) 1)])):=⟨gk S _,_,g8⟩
 generalize upd H dl (.lst [.int (fedF (ln ns st) 1)])=H1 at D1 |-;refine aI _ _ ?_;clear aI;refine i5 fun A2 aA _ _=>?_;obtain⟨e1,n1,k1⟩:=id D1;obtain⟨j1,aU,aw⟩:=h3 n1;refine⟨_,rfl,dl,n1,3,rfl,k1,(by decide),(by decide),?_⟩;rw[aU];have D2:=D1.put S (n1 / 3);generalize upd H1 dl (.lst [.int (n1 / 3)])=H2 at D2 |-;obtain⟨e2,n2,k2⟩:=id D2;obtain⟨j2,aZ,au⟩:=h3 n2;refine⟨_,rfl,dl,n2,3,rfl,k2,(by decide),(by decide),?_⟩;rw[aZ];have D3:=D2.put S (n2 / 3);generalize upd H2 dl (.lst [.int (n2 / 3)])=H3 at D3 |-;refine⟨(szLn 2),fun W ah=>?_⟩;have D4:=D3.same (gk ah (.lst [.int (j1:Int),.int (j2:Int)]));have k4:(upd H3 W (.lst [.int (j1:Int),.int (j2:Int)])) W=some (.lst [.int (j1:Int),.int (j2:Int)]):=g8;generalize upd H3 W (.lst [.int (j1:Int),.int (j2:Int)])=H4 at D4 k4 |-;have ar:W≠dl:=fun z=>by obtain⟨_,n,k⟩:=D3;rw[z,k] at ah;cases ah
 refine aA _ _ ?_;clear aA;refine i5 fun A3 al _ _=>?_;obtain⟨e4,n4,d4⟩:=id D4;refine⟨_,rfl,_,_,rfl,rfl,(show CPow 10 50 from⟨by decide,by decide,by decide⟩),dl,n4,_,rfl,d4,c.1,c.2,_,_,rfl,rfl,(szLn 3),fun l1 ag=>?_⟩;have g1:=BD n4 (Ep c.1);dsimp only at ag |-;have a1:n4 % 10 ^ (50:Int).toNat<100000000000000000000000000000000000000000000000000:=B7 n4 c.1;generalize n4 % 10 ^ (50:Int).toNat=r1 at g1 a1;have aj:=D4.put S (n4 / 10 ^ (50:Int).toNat);have aD:(upd H4 dl (.lst [.int (n4 / 10 ^ (50:Int).toNat)])) W=some (.lst [.int (j1:Int),.int (j2:Int)]):=by rw[f6 ar];exact k4
 generalize upd H4 dl (.lst [.int (n4 / 10 ^ (50:Int).toNat)])=G1 at aj aD ag |-;obtain⟨H5,z0,s1,ao⟩:=gs ag (.lst [V.int 1,V.int 2,V.int (1+r1)]);rw[z0];have D5:=aj.same s1;have ab:=s1 _ _ aD;obtain⟨T,aY,a6⟩:∃v:Int,atI [V.int 1,V.int 2,V.int (1+r1)] (j1:Int)=some (.int v)/\0<v/\v<=100000000000000000000000000000000000000000000000000:=by
  match j1,aw with
  | 0,_=>exact⟨1,rfl,by decide,by decide⟩
  | 1,_=>exact⟨2,rfl,by decide,by decide⟩
  | 2,_=>exact⟨1+r1,rfl,by lia,by lia⟩
 refine⟨_,rfl,W,_,0,.int (j1:Int),rfl,rfl,SqL.of ab,rfl,l1,_,_,.int T,rfl,rfl,SqL.of ao,aY,?_⟩;refine al _ _ ?_;clear al;refine i5 fun A4 ax _ _=>?_;obtain⟨e5,n5,d5⟩:=id D5;refine⟨_,rfl,_,_,rfl,rfl,(show CPow 10 50 from⟨by decide,by decide,by decide⟩),dl,n5,_,rfl,d5,c.1,c.2,_,_,rfl,rfl,(szLn 3),fun l2 ae=>?_⟩;have g2:=BD n5 (Ep c.1);dsimp only at ae |-;have aL:n5 % 10 ^ (50:Int).toNat<100000000000000000000000000000000000000000000000000:=B7 n5 c.1;generalize n5 % 10 ^ (50:Int).toNat=r2 at g2 aL;have aK:=D5.put S (n5 / 10 ^ (50:Int).toNat);have aG:(upd H5 dl (.lst [.int (n5 / 10 ^ (50:Int).toNat)])) W=some (.lst [.int (j1:Int),.int (j2:Int)]):=by rw[f6 ar];exact ab
 generalize upd H5 dl (.lst [.int (n5 / 10 ^ (50:Int).toNat)])=G2 at aK aG ae |-;obtain⟨H6,z1,s2,an⟩:=gs ae (.lst [V.int 1,V.int 5,V.int (1+r2)]);rw[z1];have D6:=aK.same s2;have aF:=s2 _ _ aG;obtain⟨Y,aM,a4⟩:∃v:Int,atI [V.int 1,V.int 5,V.int (1+r2)] (j2:Int)=some (.int v)/\0<v/\v<=100000000000000000000000000000000000000000000000000:=by
  match j2,au with
  | 0,_=>exact⟨1,rfl,by decide,by decide⟩
  | 1,_=>exact⟨5,rfl,by decide,by decide⟩
  | 2,_=>exact⟨1+r2,rfl,by lia,by lia⟩
 refine⟨_,rfl,W,_,1,.int (j2:Int),rfl,rfl,SqL.of aF,rfl,l2,_,_,.int Y,rfl,rfl,SqL.of an,aM,?_⟩;refine ax _ _ ?_;clear ax;refine i5 fun A5 aH _ _=>?_;refine⟨_,rfl,(by decide),(by decide),?_⟩;refine ad2 (nums 0 (6:Int).toNat) ((Cb 6).map fun (k:Nat)=>V.int (Y+(0+(k:Int))*T)) a1y trivial (by decide) (by rfl) (fun i x y hx hy H2 e2 Q' q'=>?_) fun L H7 af e7 aX=>?_
 . unfold nums at hx;rw[show (6:Int).toNat=6 from rfl,Am] at hx;rw[Am] at hy;cases hi:(Cb 6)[i]? with
   | none=>rw[hi] at hx;cases hx
   | some k =>
    rw[hi] at hx hy;have hk:k<6:=Dc.mp (AE hi);have aT:x=.int (0+(k:Int)):=(Au hx).symm;have aP:y=.int (Y+(0+(k:Int))*T):=(Au hy).symm;subst aT aP;exact⟨_,rfl,_,rfl,_,rfl,_,_,rfl,rfl,.inl ⟨by lia,by lia⟩,_,_,rfl,rfl,q' H2 (Same.refl _)⟩
 have ac:H7 L=some (.lst (((Cb 6).map fun (k:Nat)=>Y+(0+(k:Int))*T).map V.int)):=by rw[aX,BA];rfl
 have az:∀s∈(Cb 6).map fun (k:Nat)=>Y+(0+(k:Int))*T,0<s/\s<1000000000000000000000000000000000000000000000000000000000000:=fun s hs=>by
  obtain⟨k,hk,rfl⟩:=AA.mp hs;have a5:k<6:=Dc.mp hk;have up:(0+(k:Int))*T<=5*T:=Int.mul_le_mul_of_nonneg_right (by lia) (by lia);have:0<=(0+(k:Int))*T:=Int.mul_nonneg (by lia) (by lia)
  lia
 have aa:((Cb 6).map fun (k:Nat)=>Y+(0+(k:Int))*T).length=6:=by rw[Ad,EE]
 generalize (Cb 6).map (fun (k:Nat)=>Y+(0+(k:Int))*T)=g at ac az aa;have D7:=D6.same e7;have aJ:H L=none:=D6.1.free af;have l:L≠dl:=fun z=>by obtain⟨_,n,k⟩:=D6;rw[z,k] at af;cases af
 refine aH _ _ ?_;clear aH;refine i5 fun A6 am _ _=>?_;intro d hd;have D8:DI H dl (upd H7 d (.dK [])):=D7.same (gk hd _);have I8:HpL (upd H7 d (.dK [])) d L [] g:=⟨g8,gk hd _ _ _ ac,aa,(fun p hp=>by cases hp),.nil,(fun k hk=>by cases hk),az⟩
 have ay:H d=none:=D7.1.free hd;generalize upd H7 d (.dK [])=H8 at D8 I8 |-;refine am _ _ ?_;clear am;refine kq fun F1 aN _ _=>?_;obtain⟨e8,n8,d8⟩:=id D8;refine⟨_,rfl,by decide,by decide,?_⟩;refine lq (lo:=0) (n:=(6:Int).toNat) (HL H a d L st (some (.ref W)) (some (.int T)) (some (.int Y))) ⟨dl,n8,[],g,none,e8,S,l,d8,I8,AH _,rfl⟩ ?_ ?_
 . rintro i σ I hi ⟨dl,m,hp,g,z8,Z,N,l,d9,I9,aC,rfl⟩;have aR:i<6:=hi;refine m3 fun B1 a0 _ _=>?_;have t1:∀(dl:KA) (m:Int) (I:Hp),Same H I->H dl=none->L≠dl->I dl=some (.lst [.int m])->HpL I d L hp g->B1.nx [rQ a,iQ (st:Int),rQ dl,rQ W,iQ T,iQ Y,rQ L,rQ d,iQ (0+(i:Int))] I:=fun dl m I Z N l d9 I9=>a0 _ _ (by
    have X:∀{G:Hp} {o:HO},Same H G->Same H (upd G dl o):=fun {G o} e b u z=>by rw[f6 (gh z N)];exact e _ _ z
    have aB:∀{G:Hp} {o:HO},Same H G->Same H (upd G L o):=fun {G o} e b u z=>by rw[f6 (gh z aJ)];exact e _ _ z
    have ai:∀{G:Hp} {o:HO},Same H G->Same H (upd G d o):=fun {G o} e b u z=>by rw[f6 (gh z ay)];exact e _ _ z
    refine m3 fun B2 aS _ _=>?_;have t2:∀(m:Int) (g:List Int) (I:Hp),Same H I->I dl=some (.lst [.int m])->HpL I d L hp g->B2.nx [rQ a,iQ (st:Int),rQ dl,rQ W,iQ T,iQ Y,rQ L,rQ d,iQ (0+(i:Int))] I:=fun m g I Z d9 I9=>aS _ _ (by
     refine⟨_,rfl,dl,m,3,rfl,d9,(by decide),(by decide),_,_,rfl,rfl,_,rfl,?_⟩;have eA:=X (o:=.lst [.int (m / 3)]) Z;have dA:(upd I dl (.lst [.int (m / 3)])) dl=some (.lst [.int (m / 3)]):=g8;have IA:HpL (upd I dl (.lst [.int (m / 3)])) d L hp g:=I9.x d9 l fun b o z nb=>by rw[f6 nb];exact z
     generalize upd I dl (.lst [.int (m / 3)])=HA at eA dA IA |-;refine iteB (fun _=>?_) (fun _=>⟨dl,_,hp,g,_,eA,N,l,dA,IA,by lia,rfl⟩);refine⟨_,rfl,_,rfl,.mk dl L _ g rfl dA IA.hs IA.ls fun v1 m1 HB sB dB=>?_⟩;have O:=IA.x dA l sB;have eB:Same H HB:=fun b o z=>sB b o (eA _ _ z) (gh z N);refine⟨_,rfl,_,rfl,.mk dl L _ g rfl dB O.hs O.ls fun v2 m2 HC sC dC=>?_⟩;have IC:=O.x dB l sC;have eC:Same H HC:=fun b o z=>sC b o (eB _ _ z) (gh z N);refine⟨(szLn 2),fun r hr=>?_⟩;obtain⟨HD,z2,sD,kr⟩:=gs hr (.tup [V.int v1,V.int v2]);rw[z2];have U:=IC.same sD;have eD:=eC.trans sD;have ak:=sD _ _ dC;have aE:i<g.length:=by rw[IC.ls];exact aR
     have av:atI (g.map V.int) (0+(i:Int))=some (.int g[i]):=by
      rw[Fk];exact jg (by rw[Am,Af aE];rfl)
     have aq:0<g[i]/\g[i]<1000000000000000000000000000000000000000000000000000000000000:=IC.sp _ (CB aE);generalize g[i]=s at av aq;refine⟨_,rfl,_,rfl,_,rfl,L,_,_,.int s,rfl,rfl,SqL.of U.hs,av,d,_,rfl,DPut.k (k:=Sum.inl s) U.hd (j9 (by unfold hK;rw[Ad];lia)),?_⟩;rw[afd];have nt:∀{b:KA} {vs:List V},HD b=some (.tup vs)->b≠d:=fun hb z=>by rw[z,U.hd] at hb;cases hb
     have ap:∀{b:KA} {vs:List V},HD b=some (.lst vs)->b≠d:=fun hb z=>by rw[z,U.hd] at hb;cases hb
     refine⟨dl,m2,putH hp s r,g,_,ai eD,N,l,by rw[f6 (ap ak)];exact ak,⟨g8,by rw[f6 (ap U.hs)];exact U.hs,U.ls,fun p' aW=>?_,a54 U.nd,fun k hk=>(aac hk).elim (U.pos k) fun z=>by rw[z];exact aq,U.sp⟩,Aw a9m (by lia),rfl⟩;rcases aa0 aW with z|z
     . obtain⟨u,v,y⟩:=U.cu p' z;exact⟨u,v,by rw[f6 (nt y)];exact y⟩
     . rw[z];exact⟨v1,v2,by rw[f6 (nt kr)];exact kr⟩)
    refine⟨_,rfl,dl,m,8,rfl,d9,(by decide),(by decide),rfl,_,rfl,?_⟩;have eA:=X (o:=.lst [.int (m / 8)]) Z;have dA:(upd I dl (.lst [.int (m / 8)])) dl=some (.lst [.int (m / 8)]):=g8;have IA:HpL (upd I dl (.lst [.int (m / 8)])) d L hp g:=I9.x d9 l fun b o z nb=>by rw[f6 nb];exact z
    generalize upd I dl (.lst [.int (m / 8)])=HA at eA dA IA |-;refine iteB (fun _=>?_) (fun _=>t2 _ g HA eA dA IA);refine⟨_,rfl,_,_,rfl,rfl,(show CPow 10 59 from⟨by decide,by decide,by decide⟩),_,_,rfl,rfl,dl,_,_,rfl,dA,M.1,M.2,_,_,rfl,rfl,?_⟩;dsimp only;have g9:=BD (m / 8) (Ep M.1);have aV:m / 8 % (10 ^ (59:Int).toNat-1)<100000000000000000000000000000000000000000000000000000000000-1:=B7 (m / 8) M.1;generalize m / 8 % (10 ^ (59:Int).toNat-1)=r9 at g9 aV;generalize m / 8 / (10 ^ (59:Int).toNat-1)=q9;have eB:=X (o:=.lst [.int q9]) eA;have dB:(upd HA dl (.lst [.int q9])) dl=some (.lst [.int q9]):=g8;have O:HpL (upd HA dl (.lst [.int q9])) d L hp g:=IA.x dA l fun b o z nb=>by rw[f6 nb];exact z
    generalize upd HA dl (.lst [.int q9])=HB at eB dB O |-;have aQ:ixN (g.map V.int).length (0+(i:Int))=some i:=by
     rw[Ad,O.ls,Fk];unfold ixN;rw[if_pos (by lia)];simp;lia
    refine⟨_,rfl,_,rfl,L,_,_,i,rfl,rfl,O.hs,aQ,?_⟩;have es:(g.map V.int).set i (.int (1+r9))=(g.set i (1+r9)).map V.int:=by rw[List.map_set]
    rw[es];refine t2 q9 (g.set i (1+r9)) _ (aB eB) (by rw[f6 (AO l)];exact dB) ⟨?_,g8,by rw[J9];exact O.ls,O.cu.keep fun b vs hb=>?_,O.nd,O.pos,fun s hs=>?_⟩
    . rw[f6 (fun z=>by have:=O.hd;rw[z,O.hs] at this;cases this)];exact O.hd
    . rw[f6 (fun z=>by rw[z,O.hs] at hb;cases hb)];exact hb
    . rcases List.mem_or_eq_of_mem_set hs with z|z
      . exact O.sp s z
      . rw[z];lia)
   refine⟨_,rfl,_,_,rfl,rfl,(show (0:Int)<2 by decide),rfl,_,rfl,iteB (fun _=>?_) (fun _=>t1 dl m I Z N l d9 I9)⟩;have e1:(st:Int)+1+(0+(i:Int)) / 2=((st+1+i / 2:Nat):Int):=by lia
   have e2:(2:Int)+(0+(i:Int))=((2+i:Nat):Int):=by lia
   refine⟨_,rfl,_,rfl,_,_,rfl,rfl,_,rfl,_,_,rfl,rfl,(show CDiv _ 2 from⟨by decide,by decide⟩),_,_,rfl,rfl,?_⟩;dsimp only;rw[e1];refine⟨a,ns,st+1+i / 2,rfl,Z.seq hS,_,rfl,_,_,rfl,rfl,?_⟩;dsimp only;rw[e2];refine⟨_,2+i,rfl,fun aO R=>?_⟩;have sN:=gk R (.lst [.int (fedF (ln ns (st+1+i / 2)) (2+i))]);exact t1 aO _ _ (Z.trans sN) (Z.free R) (fun z=>by rw[<- z,I9.hs] at R;cases R) g8 (I9.same sN)
 rintro σ I ⟨dl,m,hp,g,z8,Z,N,l,d9,I9,aC,rfl⟩;refine aN _ _ ⟨_,rfl,_,rfl,(szLn 2),fun t ht=>q t d L hp g _ (Z.trans (gk ht _)) ay aJ g8 (I9.same (gk ht _)) aC⟩
abbrev a6y:KN:=top 37
inductive Dd
 | set (x e:Str)
 | read (x y fld:Str)
 | write (y fld e:Str)
 | new (x e f:Str)
 | free (y:Str)
noncomputable def rowD:Dd->List Str
 | .set x e=>["set",x,e]
 | .read x y fld=>["read",x,y,fld]
 | .write y fld e=>["write",y,fld,e]
 | .new x e f=>["new",x,e,f]
 | .free y=>["free",y]
noncomputable def yq(x:Str):Prop:=x="first" \/ x="second"
noncomputable def InD(xs:List Str):Dd->Prop
 | .set x e=>x∈xs/\e∈xs++[("nil":Str)]
 | .read x y fld=>x∈xs/\y∈xs/\yq fld
 | .write y fld e=>y∈xs/\yq fld/\e∈xs++[("nil":Str)]
 | .new x e f=>x∈xs/\e∈xs++[("nil":Str)]/\f∈xs++[("nil":Str)]
 | .free y=>y∈xs
inductive spPlain(vs:List V)(H:Hp)(Q:VK)(E:XK):Prop
 | mk (dl ow ev:KA)(n:Int)(own xs:List Str)(word:Str)(h0:vs=[.ref dl,.ref ow,.ref ev,.str word])(h1:H dl=some (.lst [.int n]))(h2:H ow=some (.lst (own.map V.str)))(h3:H ev=some (.lst (xs.map V.str)))(h4:own≠[])(h5:∀x∈own,x∈xs)(h6:xs≠[])(h7:xs.length<=100)(h8:own.length<=100)(n1:ow≠dl)(n2:ev≠dl)(hw:word∈([("set":Str),"read","write","new","free"]:List Str))(q:∀(d:Dd) (n':Int) t H',jt dl H H'->H' dl=some (.lst [.int n'])->H' t=some (.tup ((rowD d).map V.str))->InD xs d->Q (.ref t) H'):spPlain vs H Q E
theorem a5x(n:Int)(h:xs≠[]):∃v,atI xs (n % (xs.length:Int))=some v/\v∈xs:=o0 (xs:=xs) rfl (by have:=Do.mpr h;lia)
theorem a9o(C:Con K mg w)(F:GF K "_law_plain" a6y)(Z:FC K mg w 1 "_law_digit" nh):FC K mg w 2 "_law_plain" spPlain:=by
 refine F.ok C.gf 4 ["_law_digits","_law_own","_law_every","_law_word","_law_e","_law_x","_law_y","_law_field"] @fun P base f ar A outer s0 H vs Q E hr h nd=>?_;obtain⟨dl,ow,ev,n,own,xs,word,rfl,h1,h2,h3,h4,h5,h6,h7,h8,n1,n2,hw,q⟩:=h;refine⟨_,gc (gu 4 nd (gy K (gp ky (qv 2) (i9 (ie ad))) (gr Z hr (gj (qv 0) (jb (gp ir (mh K C.len (gj (qv 2) ad)) dn) ad)))))
  (gc (gu 5 nd (gy K (qv 1) (gr Z hr (gj (qv 0) (gw (mh K C.len (gj (qv 1) ad)) ad)))))
  (gc (gu 6 nd (gy K (qv 2) (gr Z hr (gj (qv 0) (gw (mh K C.len (gj (qv 2) ad)) ad)))))
  (gc (gu 7 nd (gy K (i9 (ie (ie ad))) (gr Z hr (gj (qv 0) (i0 ad)))))
  (gc (ij (i6 ig (qv 3) i7) (gi (gz (j5 (ie (gj (qv 5) (gj (qv 4) ad)))))) iq)
  (gc (ij (i6 ig (qv 3) i7) (gi (gz (j5 (ie (gj (qv 5) (gj (qv 6) (gj (qv 7) ad))))))) iq)
  (gc (ij (i6 ig (qv 3) i7) (gi (gz (j5 (ie (gj (qv 6) (gj (qv 7) (gj (qv 4) ad))))))) iq)
  (gc (ij (i6 ig (qv 3) i7) (gi (gz (j5 (ie (gj (qv 5) (gj (qv 4) (gq (gy K (gp ky (qv 2) (i9 (ie ad))) (gr Z hr (gj (qv 0) (jb (gp ir (mh K C.len (gj (qv 2) ad)) dn) ad)))) ad))))))) iq)
  (gi (gz (j5 (ie (gj (qv 6) ad)))))))))))),?_⟩
 have em:xs.map V.str++[V.str "nil"]=(xs++[("nil":Str)]).map V.str:=by rw[Ax];rfl
 have al:(xs++[("nil":Str)]).map V.str≠[]:=by simp
 have ap:(((xs++[("nil":Str)]).map V.str).length:Int)=(xs.length:Int)+1:=by rw[Ad,Ai];rfl
 have av:0<xs.length:=Do.mpr h6;have s:∀(r:Hp) (n1:Int) (σ:St) (N:VK),σ[0]?=some (some (.ref dl))->σ[2]?=some (some (.ref ev))->jt dl H r->r dl=some (.lst [.int n1])->(∀e n2 D,e∈xs++[("nil":Str)]->jt dl H D->D dl=some (.lst [.int n2])->N (.str e) D)->tOp (rIxL K) (tOp rCat (tVar 2) (tLst (iz (tC (.str "nil")) tNil))) (zt nh [] E0 (iz (tVar 0) (iz (tOp (rI0 fun i j=>.int (i+j)) (tCB (fun xs H Q=>∃p ys,xs=[V.ref p]/\(SqL K H p ys\/SqT K H p ys)/\Q (.int ys.length) H) (iz (tVar 2) tNil)) (tC (.int 1))) tNil))) σ r N:=fun r m σ N s0 s2 J W q'=>by
  have ag:=J _ _ h3 n2;refine⟨_,s2,(szLn 1),fun p1 an=>?_⟩;obtain⟨H3,z0,s3,k3⟩:=gs an (.lst [V.str "nil"]);rw[z0];refine⟨ev,p1,_,_,rfl,rfl,s3 _ _ ag,k3,io (by rw[Ad];show _+1<=1000;lia),fun p2 L=>?_⟩;rw[em];obtain⟨H4,z1,X,k4⟩:=gs L (.lst ((xs++[("nil":Str)]).map V.str));rw[z1];have e4:=s3.trans X;have d4:=e4 _ _ W;have np:p2≠dl:=fun z=>by
   have h1:=s3 _ _ W;rw[z,h1] at L;cases L
  refine⟨_,s0,_,s2,ev,_,rfl,.inl (SqL.of (e4 _ _ ag)),_,_,rfl,rfl,dl,m,_,rfl,d4,(by rw[Ad];lia),(by rw[Ad];exact Fl (show (xs.length:Int)+1<=1000 by lia) (by decide)),?_⟩;obtain⟨v,hv,hm⟩:=a5x m al;obtain⟨e,R,rfl⟩:=AA.mp hm;rw[ap] at hv;rw[Ad];exact⟨p2,_,_,.str e,rfl,rfl,SqL.of (by rw[f6 np];exact k4),hv,q' e _ _ R (fun b o z nb=>by rw[f6 nb];exact e4 _ _ (J b o z nb)) g8⟩
 have u:∀(r:Hp) (n1:Int) (σ:St) (N:VK) (i:Nat) (l:KA) (ys:List Str),σ[0]?=some (some (.ref dl))->σ[i]?=some (some (.ref l))->l≠dl->jt dl H r->r dl=some (.lst [.int n1])->H l=some (.lst (ys.map V.str))->ys≠[]->(ys.length:Int)<=10 ^ 60->(∀e n2 D,e∈ys->jt dl H D->D dl=some (.lst [.int n2])->N (.str e) D)->tOp (rIxL K) (tVar i) (zt nh [] E0 (iz (tVar 0) (iz (tCB (fun xs H Q=>∃p ys,xs=[V.ref p]/\(SqL K H p ys\/SqT K H p ys)/\Q (.int ys.length) H) (iz (tVar i) tNil)) tNil))) σ r N:=fun r m σ N i l ys s0 si nl J W hl U aq q'=>by
  have ac:=J _ _ hl nl;have au:=Do.mpr U;obtain⟨v,hv,hm⟩:=a5x (xs:=ys.map V.str) m (by simpa using U);obtain⟨e,R,rfl⟩:=AA.mp hm;refine⟨_,si,_,s0,_,si,l,_,rfl,.inl (SqL.of ac),dl,m,_,rfl,W,(by rw[Ad];lia),(by rw[Ad];exact aq),?_⟩;exact⟨l,_,_,.str e,rfl,rfl,SqL.of (by rw[f6 nl];exact ac),hv,q' e _ _ R (fun b o z nb=>by rw[f6 nb];exact J b o z nb) g8⟩
 have ah:(xs.length:Int)<=10 ^ 60:=Fl (show (xs.length:Int)<=1000 by lia) (by decide);have am:(own.length:Int)<=10 ^ 60:=Fl (show (own.length:Int)<=1000 by lia) (by decide);refine i5 fun A1 af _ _=>?_;refine s H n _ _ rfl rfl (fun b o z nb=>z) h1 fun e m1 r R J W=>?_;refine af _ _ ?_;clear af;refine i5 fun A2 ae _ _=>?_;refine u r m1 _ _ 1 ow own rfl rfl n1 J W h2 h4 am fun x m2 D hx e2 d2=>?_;refine ae _ _ ?_;clear ae;refine i5 fun A3 aa _ _=>?_;refine u D m2 _ _ 2 ev xs rfl rfl n2 e2 d2 h3 h6 ah fun y O H3 U e3 d3=>?_;refine aa _ _ ?_;clear aa;refine i5 fun A4 ab _ _=>?_;refine⟨(szLn 2),fun l hl=>?_⟩;obtain⟨H4,z2,X,k4⟩:=gs hl (.lst [V.str "first",V.str "second"]);rw[z2];have ao:l≠dl:=fun z=>by rw[z,d3] at hl;cases hl
 obtain⟨fv,aj,Y⟩:=o0 (xs:=[V.str "first",V.str "second"]) (m:=2) (i:=O) rfl (by decide);obtain⟨fld,rfl,G⟩:∃fld:Str,fv=.str fld/\yq fld:=by
  simp only[Ah,Av,or_false] at Y;rcases Y with rfl|rfl
  . exact⟨_,rfl,.inl rfl⟩
  . exact⟨_,rfl,.inr rfl⟩
 refine⟨_,rfl,dl,O,2,rfl,X _ _ d3,(by decide),(by decide),l,_,_,.str fld,rfl,rfl,SqL.of (by rw[f6 ao];exact k4),aj,?_⟩;refine ab _ _ ?_;clear ab;have T:jt dl H (upd H4 dl (.lst [.int (O / 2)])):=fun b o z nb=>by rw[f6 nb];exact X _ _ (e3 b o z nb)
 have M:(upd H4 dl (.lst [.int (O / 2)])) dl=some (.lst [.int (O / 2)]):=g8;generalize upd H4 dl (.lst [.int (O / 2)])=H5 at T M |-;generalize O / 2=m5 at M;have S:=h5 x hx;have mk:∀(d:Dd) (I:Hp) (m6:Int),jt dl H I->I dl=some (.lst [.int m6])->InD xs d->∀t,I t=none->Q (.ref t) (upd I t (.tup ((rowD d).map V.str))):=fun d I m6 e6 d6 ak t ht=>q d m6 t _ (fun b o z nb=>gk ht _ _ _ (e6 b o z nb)) (gk ht _ _ _ d6) g8 ak;simp only[Ah,Av,or_false] at hw;have no:∀{b:Bool} {A B:Prop},b=false->B->(if b=true then A else B):=fun hb h=>by rw[hb,if_neg Ak];exact h
 rcases hw with rfl|rfl|rfl|rfl|rfl
 . exact⟨_,rfl,rfl,_,rfl,iteT ⟨_,rfl,_,rfl,(szLn 3),mk (.set x e) H5 m5 T M ⟨S,R⟩⟩⟩
 . refine⟨_,rfl,rfl,_,rfl,no (by decide) ?_⟩;exact⟨_,rfl,rfl,_,rfl,iteT ⟨_,rfl,_,rfl,_,rfl,(szLn 4),mk (.read x y fld) H5 m5 T M ⟨S,U,G⟩⟩⟩
 . refine⟨_,rfl,rfl,_,rfl,no (by decide) ?_⟩;refine⟨_,rfl,rfl,_,rfl,no (by decide) ?_⟩;exact⟨_,rfl,rfl,_,rfl,iteT ⟨_,rfl,_,rfl,_,rfl,(szLn 4),mk (.write y fld e) H5 m5 T M ⟨U,G,R⟩⟩⟩
 . refine⟨_,rfl,rfl,_,rfl,no (by decide) ?_⟩;refine⟨_,rfl,rfl,_,rfl,no (by decide) ?_⟩;refine⟨_,rfl,rfl,_,rfl,no (by decide) ?_⟩;refine⟨_,rfl,rfl,_,rfl,iteT ?_⟩;refine⟨_,rfl,_,rfl,s H5 m5 _ _ rfl rfl T M fun e' m6 I ai e6 d6=>?_⟩;exact⟨(szLn 4),mk (.new x e e') I m6 e6 d6 ⟨S,R,ai⟩⟩
 . refine⟨_,rfl,rfl,_,rfl,no (by decide) ?_⟩;refine⟨_,rfl,rfl,_,rfl,no (by decide) ?_⟩;refine⟨_,rfl,rfl,_,rfl,no (by decide) ?_⟩;refine⟨_,rfl,rfl,_,rfl,no (by decide) ?_⟩;exact⟨_,rfl,(szLn 2),mk (.free y) H5 m5 T M U⟩
end K55
namespace L2
theorem ad6:JSeq (Itk a od kvs) (fun H=>H a=some (.frz od (.dK kvs))) (kvs.map fun kv=>kV kv.1) where
 go:=fun i H h hi=>⟨h,by rw[Ad] at hi;exact hi⟩
 stop:=fun i H h hi=>⟨h,by rw[Ad] at hi;exact hi⟩
 yld:=fun i H x H' _ h y=>y
 stay:=fun H H' h e=>e _ _ h
inductive rSortS(K:Ab)(vs:List V)(H:Hp)(Q:VK):Prop
 | mk (a:KA)(ss:List Str)(h0:vs=[.ref a])(h1:SqL K H a (ss.map V.str))(h2:ss.length<64)(q:∀p zs,H p=none->zs.Perm ss->DV zs=true->Q (.ref p) (upd H p (.lst (zs.map V.str)))):rSortS K vs H Q
theorem a5c{K:Ab}(hK:X.K=K):ku X (.builtin "sorted") (rSortS K):=by
 subst hK;intro b s σ H vs us Q I r h;obtain⟨a,e,h0,d,c,q⟩:=h;exact xw b s σ H vs us Q I r ⟨a,e,h0,d,c,q⟩
end L2
namespace K55
open L2 Mir
abbrev a3q:KN:=top 41
noncomputable def oi:Dd->List Str
 | .set x e=>[x,e]
 | .read x y _=>[x,y]
 | .write y _ e=>[y,e]
 | .new x e f=>[x,e,f]
 | .free y=>[y]
theorem adh:(("set":Str)≠"read" /\ ("write":Str)≠"read" /\ ("new":Str)≠"read" /\ ("free":Str)≠"read")/\(("set":Str)≠"write" /\ ("new":Str)≠"write" /\ ("free":Str)≠"write"):=by decide
inductive spSaidBy(K:Ab)(vs:List V)(H:Hp)(Q:VK)(E:XK):Prop
 | mk (t:KA)(d:Dd)(h0:vs=[.ref t])(h1:H t=some (.tup ((rowD d).map V.str)))(q:∀r H',Same H H'->SqT K H' r ((oi d).map V.str)->Q (.ref r) H'):spSaidBy K vs H Q E
theorem ad0(S:List Str):(bK S).map (fun kv=>kV kv.1)=S.map V.str:=by unfold bK;rw[BA];rfl
theorem ze(h:S.Nodup):(addL S x).Nodup:=by
 unfold addL;split
 . exact h
 . rename_i hn;exact ED.mpr ⟨h,E8 _ _,fun y a z hz e=>hn (by rw[<- Ap.mp hz,<- e];exact a)⟩
theorem a7t(C:Con K mg w)(F:GF K "_law_said_by" a3q):FC K mg w 1 "_law_said_by" (spSaidBy K):=by
 refine F.ok C.gf 1 ["_law_deed"] fun H vs Q E hr h nd=>?_;obtain⟨t,d,rfl,b,q⟩:=h;refine⟨_,gc (ij (i6 ig (gx K (qv 0) dn) i7) (gi (gz (ja (ur (K:=K) rfl) (qv 0) (j8 dn) (j8 dn)))) iq)
  (gc (ij (i6 ig (gx K (qv 0) dn) i7) (gi (gz (j5 (gq (gx K (qv 0) dn) (gq (gx K (qv 0) dn) ad))))) iq)
  (gi (gz (ja (ur (K:=K) rfl) (qv 0) (j8 dn) jp)))),?_⟩
 obtain⟨⟨j,o,l,u⟩,p,n,v⟩:=adh;have rest:∀(wd:Str) (us:List V),H t=some (.tup (.str wd::us))->us=(oi d).map V.str->wd≠"write" -> tSeq (tIfS (t9 (tOp rEq (tOp (rIxT K) (tVar 0) (tC (.int 0))) (tC (.str "write")))) (tRet (tTup (iz (tOp (rIxT K) (tVar 0) (tC (.int 1))) (iz (tOp (rIxT K) (tVar 0) (tC (.int 3))) tNil)))) a5f) (tRet (tSl (a16 K) (tVar 0) (a5d (tC (.int 1))) a07)) {nx:=fun x H'=>Q V.non H',rt:=Q} [some (.ref t)] H:=fun wd us ht i hw=>by
  refine⟨_,rfl,t,_,0,_,rfl,rfl,SqT.of ht,at0,rfl,_,rfl,iteS hw ?_⟩;refine⟨_,rfl,_,rfl,t,_,rfl,SqT.of ht,fun r H' e a=>q r H' e ?_⟩;have s:cutV (V.str wd::us) (some 1) none=us:=a2n _ 1;rw[s,i] at a;exact a
 cases d with
 | read x y fld =>
  refine⟨_,rfl,t,_,0,_,rfl,rfl,SqT.of b,at0,rfl,_,rfl,iteT ?_⟩;exact⟨_,rfl,_,rfl,_,rfl,t,_,rfl,SqT.of b,fun r H' e a=>q r H' e a⟩
 | write y fld e =>
  refine⟨_,rfl,t,_,0,_,rfl,rfl,SqT.of b,at0,rfl,_,rfl,iteS o ?_⟩;refine⟨_,rfl,t,_,0,_,rfl,rfl,SqT.of b,at0,rfl,_,rfl,iteT ?_⟩;exact⟨_,rfl,t,_,1,_,rfl,rfl,SqT.of b,rfl,_,rfl,t,_,3,_,rfl,rfl,SqT.of b,rfl,(szLn 2),fun r a=>q r _ (gk a _) (SqT.of g8)⟩
 | set x e=>exact⟨_,rfl,t,_,0,_,rfl,rfl,SqT.of b,at0,rfl,_,rfl,iteS j (rest "set" _ b rfl p)⟩
 | new x e g=>exact⟨_,rfl,t,_,0,_,rfl,rfl,SqT.of b,at0,rfl,_,rfl,iteS l (rest "new" _ b rfl n)⟩
 | free y=>exact⟨_,rfl,t,_,0,_,rfl,rfl,SqT.of b,at0,rfl,_,rfl,iteS u (rest "free" _ b rfl v)⟩
theorem tq{l:List α}{x:α}(h:l[i]?=some x):l.take (i+1)=l.take i++[x]:=by rw[JK,h];rfl
abbrev a47:KN:=top 45
theorem memR{F:β->Prop}:∀{l₁:List α}{l₂:List β},KI (fun _ y=>F y) l₁ l₂->∀{y},y∈l₂->F y
 | _,_,.nil,_,h=>nomatch h
 | _,_,.cons h t,y,hy=>by
  rcases Ah.mp hy with z|z
  . rw[z];exact h
  . exact memR t z
inductive spValues(K:Ab)(vs:List V)(H:Hp)(Q:VK)(E:XK):Prop
 | mk (a tl sl:KA)(ns ss:List Int)(zs:List Str)(st:Nat)(h0:vs=[.ref a,.int (st:Int),.ref tl,.ref sl])(hS:SqL K H a (ns.map V.int))(h1:H tl=some (.lst (zs.map V.str)))(h2:zs.Nodup)(h3:zs.length<=6)(h4:H sl=some (.lst (ss.map V.int)))(h5:ss.length=6)(q:∀d f H',Same H H'->H d=none->H' d=some (.dK (vK zs f))->Q (.ref d) H'):spValues K vs H Q E
inductive FeedR(G:Hp)(D:KA)(x y:V)(H:Hp):Prop
 | mk (l:KA)(n:Int)(h1:y=.ref l)(h2:l≠D)(h3:G l=none)(h4:H l=some (.lst [.int n]))
inductive VL(G:Hp)(a tl sl fl d:KA)(st:Nat)(zs:List Str)(ys:List V)(i:Nat)(σ:St)(H:Hp):Prop
 | mk (f:Str->Int)(z6:Option V)(e:Same G H)(k:H d=some (.dK (vK (zs.take i) f)))(kf:H fl=some (.lst ys))(hf:∀y∈ys,FeedR G fl .non y H)(hσ:σ=[rQ a,iQ (st:Int),rQ tl,rQ sl,rQ fl,rQ d,z6])
theorem a7j(C:Con K mg w)(F:GF K "_law_values" a47)(GC:FC K mg w 1 "_law_cell_at" (uc K))(GF:FC K mg w 2 "_law_fed" yw)(GV:FC K mg w 2 "_law_value" spValue):FC K mg w 3 "_law_values" (spValues K):=by
 refine F.ok C.gf 4 ["_law_script","_law_start","_law_told_here","_law_spots","_law_feeds","_law_values_here","_law_k"] fun H vs Q E hr h nd=>?_;obtain⟨a,tl,sl,ns,ss,zs,st,rfl,hS,X,h2,h3,h4,h5,q⟩:=h;have af:=l0 hr;have ac:=hr.mono (j:=1) (by lia);refine⟨_,gc (qy ["_law_j","_law_start","_law_script"] [1,0] (i:=4) nd rfl (Or.inl rfl) (kj rfl C.range (i0 ad)) (fun _ _ _ _=>mn) (fun _ _ _ _=>(gr GF hr (gw (gr GC ac (gj (qv 2) (jb (gp ir (qv 1) (qv 0)) ad))) (jb (gp ir dn (qv 0)) ad)))))
  (gc (gu 5 nd a03)
  (gc (jv AN rfl (kj rfl C.range (gw (mh K C.len (gj (qv 2) ad)) ad)) (jd 6 nd) (gi (km af (qv 5) (gy K (qv 2) (qv 6)) (gr GV hr (gq (gy K (qv 4) (gp kg (qv 6) dn)) (gj (qv 3) ad))))))
  (gi (gz (qv 5))))),?_⟩
 refine i5 fun A1 U _ _=>?_;refine⟨_,rfl,(by decide),(by decide),?_⟩;refine a2e (nums 0 (3:Int).toNat) (fun _=>true) (fun D x y G=>FeedR H D .non y G) a1y trivial (by decide) (fun D x y G G' ⟨l,n,u,r,e3,e4⟩ s=>⟨l,n,u,r,e3,s _ _ e4 r⟩) (fun x p G e Q' q'=>q' G (Same.refl _)) (fun D x p _ G e ae Q' q'=>?_) fun R S ys hfl s1 k1 g=>?_
 . obtain⟨k,hk,rfl⟩:∃k:Nat,k<3/\x=.int (0+(k:Int)):=by
    unfold nums at p;obtain⟨k,hk,rfl⟩:=AA.mp p;exact⟨k,Dc.mp hk,rfl⟩
   have ei:((st:Int)+(0+(k:Int)))=((st+k:Nat):Int):=by lia
   have ej:((11:Int)+(0+(k:Int)))=((11+k:Nat):Int):=by lia
   refine⟨_,rfl,_,rfl,_,rfl,_,_,rfl,rfl,?_⟩;refine⟨a,ns,st+k,congrArg (fun z:Int=>[V.ref a,V.int z]) ei,e.seq hS,_,rfl,_,_,rfl,rfl,?_⟩;refine⟨_,11+k,congrArg (fun z:Int=>[V.int (ln ns (st+k)),V.int z]) ej,fun l hl=>q' _ _ (gk hl _) ⟨l,_,rfl,fun z=>ae (by rw[<- z];exact hl),e.free hl,g8⟩⟩
 refine U _ _ ?_;clear U;have ah:ys.length=3:=by
  have:=Ay g;rw[<- this];rfl
 have W:∀y∈ys,FeedR H R .non y S:=fun y I=>by
  exact memR g I
 refine i5 fun A2 J _ _=>?_;intro d hd;have Y:=s1.trans (gk hd (.dK []));have k2:(upd S d (.dK [])) d=some (.dK (vK (zs.take 0) fun _=>0)):=g8;have M:(upd S d (.dK [])) R=some (.lst ys):=gk hd _ _ _ k1;have N:∀y∈ys,FeedR H R .non y (upd S d (.dK [])):=fun y I=>by
  obtain⟨l,n,u,r,e3,e4⟩:=W y I;exact⟨l,n,u,r,e3,gk hd _ _ _ e4⟩
 have T:=s1.free hd;generalize upd S d (.dK [])=H2 at Y k2 M N |-;refine J _ _ ?_;clear J W g k1 hd s1;refine kq fun F1 Z _ _=>?_;have ag:((zs.map V.str).length:Nat)=zs.length:=Ad _;refine⟨_,rfl,tl,_,rfl,.inl (SqL.of (Y _ _ X)),?_⟩;rw[ag];refine⟨_,rfl,by lia,by lia,?_⟩;refine lq (lo:=0) (n:=(zs.length:Int).toNat) (VL H a tl sl R d st zs ys) ⟨_,none,Y,k2,M,N,rfl⟩ ?_ ?_
 . rintro i σ G hi ⟨f1,z6,e,k,kf,hf,rfl⟩;have aa:i<zs.length:=by lia
   obtain⟨x,p⟩:∃x,zs[i]?=some x:=⟨_,Af aa⟩
   have hj:i / 2<ys.length:=by lia
   obtain⟨y,I⟩:∃y,ys[i / 2]?=some y:=⟨_,Af hj⟩
   obtain⟨l,n,rfl,nl,c,kl⟩:=hf y (AE I);have ak:sl≠l:=fun z=>by rw[z,c] at h4;cases h4
   have aj:tl≠l:=fun z=>by rw[z,c] at X;cases X
   have O:d≠l:=fun z=>by rw[z,kl] at k;cases k
   refine⟨_,rfl,_,rfl,_,_,rfl,rfl,(show CDiv _ 2 from⟨by decide,by decide⟩),R,_,_,.ref l,rfl,rfl,SqL.of kf,?_,_,rfl,?_⟩
   . have r:(0+(i:Int)) / 2=((i / 2:Nat):Int):=by lia
     rw[r];exact jg I
   refine .mk l sl n ss rfl kl (e _ _ h4) h5 fun v n' G1 s k'=>?_;have u:Same H G1:=fun b o hb=>s _ _ (e _ _ hb) (fun z=>by rw[z,c] at hb;cases hb);have L:=s _ _ k O;have m:=s _ _ kf nl.symm;refine⟨_,rfl,_,rfl,_,rfl,tl,_,_,.str x,rfl,rfl,SqL.of (u _ _ X),?_,d,_,rfl,DPut.k (k:=Sum.inr x) L (j9 (by unfold vK;rw[Ad,AQ];lia)),?_⟩
   . rw[Fk];exact jg (by rw[Am,p];rfl)
   rw[ae7 (fun hm=>?_)]
   . refine⟨upF f1 x v,_,fun b o hb=>?_,by rw[tq p];exact g8,?_,fun y' ab=>?_,rfl⟩
     . rw[f6 (fun z=>by rw[z,T] at hb;cases hb)];exact u _ _ hb
     . rw[f6 (fun z=>by rw[z,L] at m;cases m)];exact m
     . obtain⟨l2,n2,r1,r2,r3,r4⟩:=hf y' ab;by_cases z:l2=l
       . exact⟨l2,n',r1,r2,r3,by rw[z,f6 O.symm];exact k'⟩
       . exact⟨l2,n2,r1,r2,r3,by rw[f6 (fun t=>by rw[t,k] at r4;cases r4)];exact s _ _ r4 z⟩
   . have hn:(zs.take i++[x]).Nodup:=by rw[<- tq p];exact h2.sublist (EB _ _)
     exact (List.nodup_append.mp hn).2.2 x hm x (Ap.mpr rfl) rfl
 rintro σ G ⟨f1,z6,e,k,kf,hf,rfl⟩;refine Z _ _ ?_;rw[Bv,BK] at k;exact⟨_,rfl,q d f1 G e T k⟩
structure Ev where
 xs:List Str
 hs:List (Str×Nat×Bool)
noncomputable def lz(xs:Ev)(r:List Str):Prop:=∃f x y:Str,r=[f,x,y]/\(f="is" \/ f="not")/\x∈xs.xs/\y∈xs.xs++[("nil":Str)]
noncomputable def DG(xs:Ev):Deed->Prop
 | .plain (.row r)=>∃d:Dd,r=rowD d/\InD xs.xs d
 | .plain (.call x c vs)=>(x="" \/ x∈xs.xs)/\(∀v∈vs,v∈xs.xs++[("nil":Str)])/\∃g,(c,vs.length,g)∈xs.hs/\(g=true\/x="")/\(g=false->x="")/\(g=true->x∈xs.xs)
 | .cond r _ _=>lz xs r
 | .loop r F P _=>lz xs r/\F=[]/\P=[]
structure Gd(xs:Ev)(ds:List Deed)(n:Nat):Prop where
 len:∀bs,(allL bs ds).length<=n
 ok:∀bs,∀d∈allL bs ds,DG xs d
theorem a2d:∀bs,allL bs []=[]
 | []=>rfl
 | _::_=>rfl
theorem Gd.nil(xs:Ev):Gd xs [] 0:=⟨fun bs=>by rw[a2d];exact Aj _,fun bs d hd=>by rw[a2d] at hd;cases hd⟩
theorem Gd.app(h:Gd xs ds m)(g:Gd xs es n):Gd xs (ds++es) (m+n):=by
 have e:∀bs,allL bs (ds++es)=allL bs ds++allL bs es:=fun bs=>by
  cases bs with
  | nil=>rfl
  | cons b bs=>exact Ca ..
 refine⟨fun bs=>?_,fun bs d hd=>?_⟩
 . rw[e,Ai];exact JL (h.len bs) (g.len bs)
 . rw[e] at hd;rcases Aq.mp hd with z|z
   . exact h.ok bs d z
   . exact g.ok bs d z
theorem Gd.one(hd:DG xs d)(hl:∀bs,((innL d).flatMap (allL bs)).length<=n)(f:∀bs,∀e∈(innL d).flatMap (allL bs),DG xs e):Gd xs [d] (n+1):=by
 refine⟨fun bs=>?_,fun bs e c=>?_⟩
 . cases bs with
   | nil=>exact AH _
   | cons b bs =>
    show ([d].flatMap (allD (allL bs))).length<=n+1;rw[BF];exact Gy (hl bs)
 . cases bs with
   | nil=>cases c
   | cons b bs =>
    have a:e∈[d].flatMap (allD (allL bs)):=c;rw[BF] at a;rcases Ah.mp a with rfl|z
    . exact hd
    . exact f bs e z
theorem Gd.cond(hr:lz xs r)(ha:Gd xs a m)(hb:Gd xs b n):Gd xs [.cond r a b] (m+n+1):=by
 refine Gd.one hr (fun bs=>?_) (fun bs e d=>?_)
 . show ([a,b].flatMap (allL bs)).length<=_;rw[C8,BF,Ai];exact JL (ha.len bs) (hb.len bs)
 . have c:e∈[a,b].flatMap (allL bs):=d;rw[C8,BF] at c;rcases Aq.mp c with z|z
   . exact ha.ok bs e z
   . exact hb.ok bs e z
theorem Gd.loop(hr:lz xs r)(ha:Gd xs a m):Gd xs [.loop r [] [] a] (m+1):=by
 refine Gd.one (d:=.loop r [] [] a) ⟨hr,rfl,rfl⟩ (fun bs=>?_) (fun bs e c=>?_)
 . show ([a].flatMap (allL bs)).length<=_;rw[BF];exact ha.len bs
 . have b:e∈[a].flatMap (allL bs):=c;rw[BF] at b;exact ha.ok bs e b
theorem Gd.mono(h:Gd xs ds m)(hn:m<=n):Gd xs ds n:=⟨fun bs=>Aw (h.len bs) hn,h.ok⟩
theorem a23:∀ds:List Deed,(ds.flatMap (allD (allL []))).length=ds.length
 | []=>rfl
 | d::ds=>by
  rw[C8,Ai,a23 ds,AB];have:allD (allL []) d=[d]:=by
   unfold allD;cases d<;>rfl
  rw[this,Be];lia
theorem Gd.short(h:Gd xs ds n):ds.length<=n:=by
 have:=h.len [0];have e:(allL [0] ds).length=ds.length:=a23 ds
 lia
noncomputable def a2u(K:Ab):List Nat->Hp->KA->List Deed->Prop
 | [],_,_,_=>False
 | b::bs,H,l,ds=>∃ts:List KA,H l=some (.lst (ts.map V.ref))/\KI (DeedX K (rm (fun c=>c=l) H) (a2u K bs (rm (fun c=>c=l) H))) ts ds/\ts.length<=b
abbrev ListY(K:Ab)(H:Hp)(bs:List Nat):KA->List Deed->Prop:=a2u K bs H
theorem ListY.same:∀{bs:List Nat}{H H':Hp}{l:KA}{ds:List Deed},ListY K H bs l ds->Same H H'->ListY K H' bs l ds
 | [],_,_,_,_,h,_=>h.elim
 | b::bs,H,H',l,ds,h,e=>by
  obtain⟨ts,f,a,d⟩:=h;have g:Same (rm (fun c=>c=l) H) (rm (fun c=>c=l) H'):=ip e;exact⟨ts,e _ _ f,Paired.mapP a fun _ _ z=>z.same g fun _ _ y=>ListY.same y g,d⟩
theorem ListY.x:∀{bs:List Nat}{H:Hp}{l:KA}{ds:List Deed},ListY K H bs l ds->ListX K H bs l ds
 | [],_,_,_,h=>h.elim
 | b::bs,H,l,ds,h=>by
  obtain⟨ts,d,a,c⟩:=h;exact⟨ts,d,Paired.mapP a fun _ _ z=>z.same rm_back fun _ _ y=>(ListY.x y).same rm_back,c⟩
noncomputable def Og(H0:Hp)(L:List KA):KA->Prop:=fun c=>c∈L\/∃vs,H0 c=some (.lst vs)
structure Bk where
 ce:KA
 a:KA
 b:KA
 wd:Str
 cd:V
 na:Nat
 nb:Nat
noncomputable def LsAt(K:Ab)(G H:Hp)(xs:Ev)(m:Nat)(a:KA)(n:Nat):Prop:=∃(ts:List KA) (ds:List Deed),H a=some (.lst (ts.map V.ref))/\KI (DeedX K G (ListY K G (B m))) ts ds/\Gd xs ds n
structure BkAt(K:Ab)(G H:Hp)(xs:Ev)(m:Nat)(c:Bk):Prop where
 hc:H c.ce=some (.lst [.str c.wd,c.cd,.ref c.a,.ref c.b])
 ha:LsAt K G H xs m c.a c.na
 hb:LsAt K G H xs m c.b c.nb
noncomputable def CdAt(G:Hp)(xs:Ev)(v:V):Prop:=∃(c:KA) (r:List Str),v=.ref c/\G c=some (.tup (r.map V.str))/\lz xs r
noncomputable def StkAt(K:Ab)(G H:Hp)(xs:Ev):List Bk->Prop
 | []=>True
 | c::r=>BkAt K G H xs (4-r.length) c/\(r≠[]->CdAt G xs c.cd)/\StkAt K G H xs r
noncomputable def opn(cs:List Bk):List KA:=cs.flatMap fun c=>[c.ce,c.a,c.b]
noncomputable def cntB(cs:List Bk):Nat:=(cs.map fun c=>c.na+c.nb+1).sum
structure BB(K:Ab)(H0 H:Hp)(xs:Ev)(wa:KA)(cs:List Bk)(n:Nat):Prop where
 e:Same H0 H
 nd:(wa::opn cs).Nodup
 fr:∀c∈wa::opn cs,H0 c=none
 w:H wa=some (.lst ((cs.map fun c=>V.ref c.ce).reverse))
 st:StkAt K (rm (Og H0 (wa::opn cs)) H) H xs cs
 low:cs.length<=5
 cnt:cntB cs<=n+1
theorem LsAt.same(h:LsAt K G H xs m a n)(e:Same G d)(k:∀o,H a=some o->H' a=some o):LsAt K d H' xs m a n:=by
 obtain⟨ts,ds,f,b,c⟩:=h;exact⟨ts,ds,k _ f,Paired.mapP b fun _ _ z=>z.same e fun _ _ y=>ListY.same y e,c⟩
theorem j7:opn (c::r)=c.ce::c.a::c.b::opn r:=rfl
theorem StkAt.same(e:Same G d):∀{cs:List Bk},StkAt K G H xs cs->(∀a∈opn cs,∀o,H a=some o->H' a=some o)->StkAt K d H' xs cs
 | [],_,_=>trivial
 | c::r,⟨⟨hc,ha,hb⟩,hd,h⟩,k=>by
  rw[j7] at k;refine⟨⟨k _ Ag _ hc,ha.same e (k _ (by simp)),hb.same e (k _ (by simp))⟩,fun z=>?_,h.same e fun a ha=>k a (by simp[ha])⟩;obtain⟨c,r,g,b,f⟩:=hd z;exact⟨c,r,g,e _ _ b,f⟩
theorem BB.same(Z:BB K c H xs b cs n)(e:Same H a):BB K c a xs b cs n :=
 ⟨Z.e.trans e,Z.nd,Z.fr,e _ _ Z.w,Z.st.same (ip e) fun _ _ o h=>e _ _ h,Z.low,Z.cnt⟩
theorem BB.mono(Z:BB K b H xs a cs n)(h:n<=m):BB K b H xs a cs m:=⟨Z.e,Z.nd,Z.fr,Z.w,Z.st,Z.low,Aw Z.cnt (Gy h)⟩
theorem BB.last(Z:BB K b H xs a (c::r) n):H a=some (.lst ((r.map fun c=>V.ref c.ce).reverse++[V.ref c.ce])):=by rw[Z.w,As,Cj]
theorem BB.hc(Z:BB K H0 H xs wa (c::r) n):H c.ce=some (.lst [.str c.wd,c.cd,.ref c.a,.ref c.b]):=Z.st.1.hc
theorem BB.off(Z:BB K q H xs d (c::r) n):d≠c.ce/\d≠c.a/\d≠c.b/\c.ce≠c.a/\c.ce≠c.b/\c.a≠c.b/\c.ce∉opn r/\c.a∉opn r/\c.b∉opn r/\d∉opn r:=by
 have nd:=Z.nd;rw[j7] at nd;simp only[Bc,Ah,not_or] at nd;obtain⟨⟨m,f,h,p⟩,⟨g,j,o⟩,⟨l,i⟩,e,_⟩:=nd;exact⟨m,f,h,g,j,l,o,i,e,p⟩
theorem BB.word(Z:BB K f H xs d (c::r) n)(wd:Str):BB K f (upd H c.ce (.lst [.str wd,c.cd,.ref c.a,.ref c.b])) xs d ({c with wd:=wd}::r) n:=by
 obtain⟨m,u,y,j,i,A,l,v,s,p⟩:=Z.off;have g:c.ce∈d::opn (c::r):=by rw[j7];simp
 have q:=rk (X:=Og f (d::opn (c::r))) (H:=H) (a:=c.ce) (o:=.lst [.str wd,c.cd,.ref c.a,.ref c.b]) (.inl g);obtain⟨⟨hc,ha,hb⟩,hd,hs⟩:=Z.st;refine⟨fun x o h=>by rw[f6 (gh h (Z.fr _ g))];exact Z.e _ _ h,Z.nd,Z.fr,by rw[f6 m];exact Z.w,?_,Z.low,Z.cnt⟩;show StkAt K (rm (Og f (d::opn (c::r))) _) _ xs _;rw[q];exact⟨⟨g8,ha.same (Same.refl _) fun o h=>by rw[f6 (AO j)];exact h,hb.same (Same.refl _) fun o h=>by rw[f6 (AO i)];exact h⟩,hd,hs.same (Same.refl _) fun a ha o h=>by rw[f6 (fun z=>l (by rw[<- z];exact ha))];exact h⟩
theorem BB.appA(Z:BB K f H xs b (c::r) n){ts:List KA}(g:H c.a=some (.lst (ts.map V.ref)))(ht:DeedX K (rm (Og f (b::opn (c::r))) H) (ListY K (rm (Og f (b::opn (c::r))) H) (B (4-r.length))) t d)(y:Gd xs [d] k):BB K f (upd H c.a (.lst (ts.map V.ref++[.ref t]))) xs b ({c with na:=c.na+k}::r) (n+k):=by
 obtain⟨F,v,I,m,G,q,E,C,D,s⟩:=Z.off;have i:c.a∈b::opn (c::r):=by rw[j7];simp
 have u:=rk (X:=Og f (b::opn (c::r))) (H:=H) (a:=c.a) (o:=.lst (ts.map V.ref++[.ref t])) (.inl i);obtain⟨⟨hc,ha,hb⟩,hd,hs⟩:=Z.st;have cnt:=Z.cnt;refine⟨fun x o h=>by rw[f6 (gh h (Z.fr _ i))];exact Z.e _ _ h,Z.nd,Z.fr,by rw[f6 v];exact Z.w,?_,Z.low,?_⟩
 . show StkAt K (rm (Og f (b::opn (c::r))) _) _ xs _;rw[u];refine⟨⟨by rw[f6 m];exact hc,?_,hb.same (Same.refl _) fun o h=>by rw[f6 (AO q)];exact h⟩,hd,hs.same (Same.refl _) fun a ha o h=>by rw[f6 (fun z=>C (by rw[<- z];exact ha))];exact h⟩;obtain⟨p,ds,A,j,l⟩:=ha;have e:=om g A;subst e;exact⟨ts++[t],ds++[d],by rw[g8,Ax];rfl,Paired.snocP j ht,l.app y⟩
 . unfold cntB at cnt |-;rw[As,Cr] at cnt |-;dsimp only at cnt |-
   lia
theorem BB.appB(Z:BB K g H xs f (c::r) n){ts:List KA}(i:H c.b=some (.lst (ts.map V.ref)))(ht:DeedX K (rm (Og g (f::opn (c::r))) H) (ListY K (rm (Og g (f::opn (c::r))) H) (B (4-r.length))) t d)(A:Gd xs [d] k):BB K g (upd H c.b (.lst (ts.map V.ref++[.ref t]))) xs f ({c with nb:=c.nb+k}::r) (n+k):=by
 obtain⟨G,I,D,E,y,s,F,J,m,u⟩:=Z.off;have j:c.b∈f::opn (c::r):=by rw[j7];simp
 have v:=rk (X:=Og g (f::opn (c::r))) (H:=H) (a:=c.b) (o:=.lst (ts.map V.ref++[.ref t])) (.inl j);obtain⟨⟨hc,ha,hb⟩,hd,hs⟩:=Z.st;have cnt:=Z.cnt;refine⟨fun x o h=>by rw[f6 (gh h (Z.fr _ j))];exact Z.e _ _ h,Z.nd,Z.fr,by rw[f6 D];exact Z.w,?_,Z.low,?_⟩
 . show StkAt K (rm (Og g (f::opn (c::r))) _) _ xs _;rw[v];refine⟨⟨by rw[f6 y];exact hc,ha.same (Same.refl _) fun o h=>by rw[f6 s];exact h,?_⟩,hd,hs.same (Same.refl _) fun a ha o h=>by rw[f6 (fun z=>m (by rw[<- z];exact ha))];exact h⟩;obtain⟨q,ds,C,l,p⟩:=hb;have e:=om i C;subst e;exact⟨ts++[t],ds++[d],by rw[g8,Ax];rfl,Paired.snocP l ht,p.app A⟩
 . unfold cntB at cnt |-;rw[As,Cr] at cnt |-;dsimp only at cnt |-
   lia
theorem BB.pop(Z:BB K f H xs d (c::b::r) n)(hn:n<=30)(h':Hp)(M:h'=upd H d (.lst (((b::r).map fun c=>V.ref c.ce).reverse))):∃m k,m+k=n/\c.na+c.nb+1=k/\BB K f h' xs d (b::r) m/\h' c.ce=some (.lst [.str c.wd,c.cd,.ref c.a,.ref c.b])/\(∃i,ListY K (rm (Og f (d::opn (b::r))) h') (B (4-r.length)) c.a i/\Gd xs i c.na)/\(∃A,ListY K (rm (Og f (d::opn (b::r))) h') (B (4-r.length)) c.b A/\Gd xs A c.nb)/\CdAt (rm (Og f (d::opn (b::r))) h') xs c.cd:=by
 subst M;obtain⟨I,L,N,O,R,Q,P,F,D,s⟩:=Z.off;have nd:=Z.nd;have low:=Z.low;rw[AB,AB] at low;have cnt:=Z.cnt;unfold cntB at cnt;rw[As,Cr,As,Cr] at cnt;obtain⟨⟨hc,ha,hb⟩,hd,hs⟩:=Z.st;have q:Same (rm (Og f (d::opn (c::b::r))) H) (rm (Og f (d::opn (b::r))) H):=zc fun x g=>g.imp (fun g=>by
  rw[j7];rcases Ah.mp g with rfl|z
  . exact Ag
  . exact Al _ (by simp[z])) id
 have p:=rk (X:=Og f (d::opn (b::r))) (H:=H) (a:=d) (o:=.lst (((b::r).map fun c=>V.ref c.ce).reverse)) (.inl Ag);have v:∀{a:KA} {k:Nat},LsAt K (rm (Og f (d::opn (c::b::r))) H) H xs (4-(b::r).length) a k->d≠a->a∉opn (b::r)->f a=none->k<=30->a∈opn (c::b::r)->∃i,ListY K (rm (Og f (d::opn (b::r))) H) (B (4-r.length)) a i/\Gd xs i k:=fun {a k} h n1 n2 n3 E hm=>by
  obtain⟨ts,ds,u,j,l⟩:=h;have C:Same (rm (Og f (d::opn (c::b::r))) H) (rm (fun c=>c=a) (rm (Og f (d::opn (b::r))) H)):=fun x o y=>by
   rw[ib (X:=fun c=>c=a) (fun w=>(j4 y).1 (.inl (Al _ (by rw[w];exact hm))))];exact q _ _ y
  refine⟨ds,?_,l⟩;rw[show 4-r.length=(4-(b::r).length)+1 by rw[AB];lia];refine⟨ts,?_,Paired.mapP j fun _ _ z=>z.same C fun _ _ y=>ListY.same y C,?_⟩
  . rw[ib (fun z=>?_)]
    . exact u
    . rcases z with z|⟨vs,z⟩
      . rcases Ah.mp z with y|y
        . exact n1 y.symm
        . exact n2 y
      . rw[n3] at z;cases z
  . rw[Ay j];exact Aw l.short E
 refine⟨n-(c.na+c.nb+1),c.na+c.nb+1,by lia,rfl,⟨fun x o h=>by rw[f6 (gh h (Z.fr _ Ag))];exact Z.e _ _ h,?_,fun x g=>Z.fr x ?_,g8,?_,by rw[AB];lia,?_⟩,?_,?_,?_,?_⟩
 . rw[j7] at nd;simp only[Bc,Ah,not_or] at nd |-;exact⟨nd.1.2.2.2,nd.2.2.2.2⟩
 . rw[j7];rcases Ah.mp g with rfl|z
   . exact Ag
   . exact Al _ (by simp[z])
 . rw[p];exact hs.same q fun a ha o h=>by rw[f6 (fun z=>s (by rw[<- z];exact ha))];exact h
 . unfold cntB;rw[As,Cr]
   lia
 . rw[f6 (AO I)];exact hc
 . rw[p];exact v ha L F (Z.fr _ (by rw[j7];simp)) (by lia) (by rw[j7];simp)
 . rw[p];exact v hb N D (Z.fr _ (by rw[j7];simp)) (by lia) (by rw[j7];simp)
 . rw[p];obtain⟨J,G,u,j,l⟩:=hd (by simp);exact⟨J,G,u,q _ _ j,l⟩
theorem BB.live(Z:BB K d H xs b cs n):∀x∈b::opn cs,∃o,H x=some o:=fun x a=>by
 rcases Ah.mp a with rfl|z
 . exact⟨_,Z.w⟩
 . have key:∀{cs:List Bk} {G:Hp},StkAt K G H xs cs->∀x∈opn cs,∃o,H x=some o:=by
    intro cs;induction cs with
    | nil=>intro G _ x a;cases a
    | cons c r ih =>
     intro G h x a;obtain⟨⟨hc,⟨_,_,ha,_⟩,⟨_,_,hb,_⟩⟩,_,hs⟩:=h;rw[j7] at a;simp only[Ah] at a;rcases a with rfl|rfl|rfl|a
     . exact⟨_,hc⟩
     . exact⟨_,ha⟩
     . exact⟨_,hb⟩
     . exact ih hs x a
   exact key Z.st x z
theorem BB.new(Z:BB K c H xs b cs n)(h:H y=none):¬ Og c (b::opn cs) y:=fun z=>by
 rcases z with z|⟨vs,z⟩
 rotate_left
 . have:=Z.e _ _ z;rw[h] at this;cases this
 obtain⟨o,a⟩:=Z.live y z;rw[h] at a;cases a
theorem BB.push(Z:BB K r H xs f cs n)(e:Same H g)(hl:cs.length<5)(C:cs≠[]){wd:Str}(nc:H ce=none)(na:H a=none)(nb:H b=none)(p:H cd=none)(v:ce≠a)(u:ce≠b)(D:a≠b)(hcd:g cd=some (.tup (q.map V.str)))(d:cd≠ce/\cd≠a/\cd≠b)(hok:lz xs q)(s:g ce=some (.lst [.str wd,.ref cd,.ref a,.ref b]))(ha:g a=some (.lst []))(hb:g b=some (.lst [])):
 BB K r (upd g f (.lst ((cs.map fun c=>V.ref c.ce).reverse++[.ref ce]))) xs f (⟨ce,a,b,wd,.ref cd,0,0⟩::cs) (n+1):=by
 have new:∀{y:KA},H y=none->y∉f::opn cs:=fun h z=>Z.new h (.inl z);have n1:=new nc;have n2:=new na;have n3:=new nb;have n4:=new p;have A:=rk (X:=Og r (f::opn (⟨ce,a,b,wd,.ref cd,0,0⟩::cs))) (H:=g) (a:=f) (o:=.lst ((cs.map fun c=>V.ref c.ce).reverse++[.ref ce])) (.inl Ag);have w:Same (rm (Og r (f::opn cs)) H) (rm (Og r (f::opn (⟨ce,a,b,wd,.ref cd,0,0⟩::cs))) g):=fun x o i=>by
  obtain⟨g1,j⟩:=j4 i;rw[ib (fun y=>?_)]
  . exact e _ _ j
  . rcases y with y|y
    rotate_left
    . exact g1 (.inr y)
    rw[j7] at y;simp only[Ah] at y;rcases y with y|y|y|y|y
    . exact g1 (.inl (by rw[y];exact Ag))
    . rw[y,nc] at j;cases j
    . rw[y,na] at j;cases j
    . rw[y,nb] at j;cases j
    . exact g1 (.inl (Al _ y))
 have m:∀{y:KA},y∉f::opn cs->y≠f/\y∉opn cs:=fun {y} h=>⟨fun z=>h (by rw[z];exact Ag),fun z=>h (Al _ z)⟩
 have l:∀{G:Hp} {k:Nat} {x:KA},g x=some (.lst [])->x≠f->LsAt K G (upd g f (.lst ((cs.map fun c=>V.ref c.ce).reverse++[.ref ce]))) xs k x 0:=fun h z=>⟨[],[],by rw[f6 z];exact h,.nil,.nil xs⟩
 have cnt:=Z.cnt;refine⟨fun x o h=>by rw[f6 (gh h (Z.fr _ Ag))];exact e _ _ (Z.e _ _ h),?_,fun x i=>?_,by rw[g8,As,Cj],?_,by rw[AB];lia,?_⟩
 . have nd:=Z.nd;rw[j7];simp only[Bc,Ah,not_or] at nd n1 n2 n3 |-;exact⟨⟨AO n1.1,AO n2.1,AO n3.1,nd.1⟩,⟨v,u,n1.2⟩,⟨D,n2.2⟩,n3.2,nd.2⟩
 . rw[j7] at i;simp only[Ah] at i;rcases i with rfl|rfl|rfl|rfl|i
   . exact Z.fr _ Ag
   . exact Z.e.free nc
   . exact Z.e.free na
   . exact Z.e.free nb
   . exact Z.fr x (Al _ i)
 . rw[A];refine⟨⟨by rw[f6 (m n1).1];exact s,l ha (m n2).1,l hb (m n3).1⟩,fun _=>⟨cd,q,rfl,?_,hok⟩,Z.st.same w fun x i o h=>?_⟩
   . rw[ib (fun y=>?_)]
     . exact hcd
     . rcases y with y|⟨vs,y⟩
       rotate_left
       . have:=Z.e _ _ y;rw[p] at this;cases this
       rw[j7] at y;simp only[Ah] at y;rcases y with y|y|y|y|y
       . exact (m n4).1 y
       . exact d.1 y
       . exact d.2.1 y
       . exact d.2.2 y
       . exact (m n4).2 y
   . have nd:=Z.nd;rw[f6 (fun z=>(Bc.mp nd).1 (by rw[<- z];exact i))];exact e _ _ h
 . unfold cntB at cnt |-;rw[As,Cr];dsimp only
   lia
end K55
namespace L2
open PyProof.Rows
section
variable{prog:KZ}{w:KY}{A:Kq}{E:KB->KG->Prop}{s:KG} in
theorem yz{it t:KA}{items:Array KB}(d:t≠it):∀(n i:Nat) (s:KG) (Q:List KB->KG->Prop),s.heap.IsListIter it t i->s.heap.IsList t items->i+n<=items.size->
 (∀h',h'.IsListIter it t (i+n)->Cn it s.heap h'->Q ((items.toList.drop i).take n) {s with heap:=h'})->KC (KE prog w) A (draw (.ref it) n) Q E s
 | 0,i,s,Q,hit,_,_,hQ=>by
  show KC _ _ (pure []) Q E s;exact Ae (by simpa using hQ s.heap hit (Jc ..))
 | n+1,i,s,Q,hit,ht,hle,hQ=>by
  have e:i<items.size:=by lia
  show KC _ _ (Kh (.ref it)>>=_) Q E s;refine Aa (EH hit ht (x:=items[i]) (by simp[e]) fun h a b=>?_);refine Aa (AU (yz d n (i+1) _ _ a (ht.extBut b.extBut d) (by lia) fun g c f=>Ae ?_));have hd:items.toList.drop i=items[i]::items.toList.drop (i+1):=by simp[Gg,e]
  have:=hQ g (by rw[show i+(n+1)=i+1+n by lia];exact c) (b.trans f);rw[hd,List.take_succ_cons] at this;exact this
theorem xl{t:KA}(q:A.handled=none)(ht:s.heap.IsList t items)(n:∀h',Hw s.heap.objs.size s.heap h'->Q items.toList {s with heap:=h'}):KC (KE prog w) A (unpackItems (.ref t) items.size none) Q E s:=by
 have h:t≠s.heap.objs.size:=by obtain⟨o,c,_⟩:=ht;exact AC (Ar c)
 have d:(s.heap.push {cls:=.type "list_iterator",data:=.fields #[.ref t,.int 0 0]}).IsList t items:=by obtain⟨o,c,r⟩:=ht;exact⟨o,Ac _ c,r⟩
 have j:s.TypeIs (.ref t) "list" := by obtain⟨o,c,hc,_⟩:=ht;exact⟨o,c,hc⟩
 unfold unpackItems;refine Aa ?_
 . unfold notIterableAtAll;refine Aa (Hj j F.slot_list_iter.lookup ?_);refine Ae ?_;simp only[B0,if_false];refine Aa (AU (C5 ht ?_));refine Aa (AU (yz h items.size 0 _ _ ⟨_,An _ rfl,rfl,rfl⟩ d (by lia) fun p f g=>?_));have a:List.take items.size (List.drop 0 items.toList)=items.toList:=by
    rw[De];exact Bi (by simp)
   rw[a];rw[if_neg (by simp)];have i:p.IsList t items:=d.extBut g.extBut h;refine Aa (AU (ET q f i (by simp) fun m l=>?_));simp only[Option.isSome_none,B0,if_false];refine Ae (n m fun b o hb e=>l b o hb (g.extBut b o hb (Ac _ e)))
theorem vk{x1}{t:KA}(c:A.handled=none)(ht:s.heap.IsList t items)(hn:(KJ a env).length=items.size)(b:(KJ a env).findIdx? (·.1)=none)(h:∀h',Hw s.heap.objs.size s.heap h'->KC (KE prog w) A (assignInOrder ((KJ a env).map (·.2)) items.toList) Q E {s with heap:=h'}):
 KC (KE prog w) A (assign (.Tuple a x1 pos) env (.ref t)) Q E s:=by
 rw[assign_Tuple];refine Aa (EM ?_);unfold unpack;rw[hn,b];exact Aa (AU (xl c ht h))
end
noncomputable def gLst(K:Ab)(n:Nat)(t:TGs):TG:=fun v σ H Q=>∃a xs,v=.ref a/\SqL K H a xs/\xs.length=n/\t xs σ H Q
theorem adt{k:Nat}{t:TGs}(hc:X.calm=true)(h:PGs X es t)(hn:autoParam ((KJ es X.env).length=n) a3_)(d:autoParam ((KJ es X.env).findIdx? (·.1)=none) a3_):PG X (.Tuple es k pos) (gLst X.K n t):=by
 intro c s σ H v u Q I r hw;obtain⟨a,xs,i,hq,hl,hw⟩:=hw;subst i;cases r;obtain⟨its,f,ht,hz⟩:=I.list hq;refine vk (I.ok.hd hc) ht.isList (by simp[hn,<- hl,f.length]) d fun h' g=>?_;have j:Inv X c σ H {s with heap:=h'}:=I.kept (t':=s.toks) fun b o e=>g b o (AC (Ar e)) e;exact h c _ σ H xs _ Q j (by simpa using f) hw
end L2
namespace K55
open L2 Mir
theorem ac8(hK:X.K=K){pv:Pos}(n:QG X (.Name x px) (gt i))(d:QG X (.Name y b) (gt j))(e:QG X (.Name z a) (gt l))(p:QG X (.Name v pv) (gt m))(hc:autoParam (X.calm=true) a3_)(h:autoParam ((KJ [.Name x px,.Name y b,.Name z a,.Name v pv] X.env).map (·.2)=assign (.Name x px) X.env::(KJ [.Name y b,.Name z a,.Name v pv] X.env).map (·.2)) a3_)(o:autoParam ((KJ [.Name y b,.Name z a,.Name v pv] X.env).map (·.2)=assign (.Name y b) X.env::(KJ [.Name z a,.Name v pv] X.env).map (·.2)) a3_)(g:autoParam ((KJ [.Name z a,.Name v pv] X.env).map (·.2)=assign (.Name z a) X.env::(KJ [.Name v pv] X.env).map (·.2)) a3_)(f:autoParam ((KJ [.Name v pv] X.env).map (·.2)=assign (.Name v pv) X.env::(KJ [] X.env).map (·.2)) a3_)(hn:autoParam ((KJ [.Name x px,.Name y b,.Name z a,.Name v pv] X.env).length=4) a3_)(c:autoParam ((KJ [.Name x px,.Name y b,.Name z a,.Name v pv] X.env).findIdx? (·.1)=none) a3_):QG X (.Tuple [.Name x px,.Name y b,.Name z a,.Name v pv] k pos) (gLst K 4 (mx (gt i) (mx (gt j) (mx (gt l) (mx (gt m) gNil))))):=by
 subst hK;exact⟨adt hc (ko n.run (ko d.run (ko e.run (ko p.run wc f) g) o) h) hn c⟩
abbrev a3e:KN:=top 38
inductive spClosed(K:Ab)(vs:List V)(H:Hp)(Q:VK)(E:XK):Prop
 | mk (H0:Hp)(xs:Ev)(wa:KA)(c b:Bk)(r:List Bk)(n:Nat)(h0:vs=[.ref wa])(hS:BB K H0 H xs wa (c::b::r) n)(hn:n<=28)(hx:∀y∈xs.xs,Ok y)(q:∀H' b',BB K H0 H' xs wa (b'::r) n->Q .non H'):spClosed K vs H Q E
theorem a7i(C:Con K mg w)(F:GF K "_law_closed" a3e):FC K mg w 1 "_law_closed" (spClosed K):=by
 refine F.ok C.gf 1 ["_law_blocks","_law_word","_law_condition","_law_first","_law_second","_law_deed"] fun H vs Q E hr h nd=>?_;obtain⟨R,xs,e,c,b,r,n,rfl,Z,hn,hx,q⟩:=h;have au:=l0 hr;refine⟨_,gc (pq (o8 AF EX EY a1h (qv 0)) (ac8 (K:=K) rfl (jd 1 nd) (jd 2 nd) (jd 3 nd) (jd 4 nd)))
  (gc (gu 5 nd (j5 (ie (gj (qv 2) (og (my ad (my ad ad)) (gj (qv 3) ad))))))
  (gc (ij (i6 uz (qv 1) i7) (gi (gu 5 nd (j5 (ie (gj (qv 2) (gj (qv 3) (gj (qv 4) ad))))))) iq)
  (gi (ia (jr (K:=K) rfl AF Bg Bh jo (gy K (gy K (qv 0) (jx jm dn)) (gy K (i9 (i0 (i0 ad))) (ii mu rfl C.int CU (jk (nj ig (gy K (gy K (qv 0) (jx jm dn)) dn) i7 (ly _)) ad)))) (gj (qv 5) ad)))))),?_⟩
 have low:=Z.low;rw[AB,AB] at low;have aj:(((b::r).map fun c=>V.ref c.ce).reverse++[V.ref c.ce])[(((b::r).map fun c=>V.ref c.ce).reverse++[V.ref c.ce]).length-1]?=some (V.ref c.ce):=by
  rw[Ai,Be,FH];exact DQ
 refine i5 fun D1 aa _ _=>?_;refine⟨_,rfl,.inl ⟨rfl,_,SqL.of Z.last⟩,e,_,_,rfl,rfl,Z.last,aj,?_⟩;rw[Fj];obtain⟨m,k,ag,hk,O,kc,⟨da,la,ga⟩,⟨db,lb,gb⟩,⟨g,rr,hcd,J,L⟩⟩:=Z.pop (Aw hn (by decide)) _ rfl;generalize upd H e (.lst (((b::r).map fun c=>V.ref c.ce).reverse))=G at O kc la lb J |-;refine⟨c.ce,_,rfl,SqL.of kc,rfl,_,_,rfl,_,_,rfl,_,_,rfl,_,_,rfl,rfl,?_⟩;rw[hcd];refine aa [rQ e,some (.str c.wd),rQ g,rQ c.a,rQ c.b,nQ] _ ?_;clear aa;obtain⟨f0,x0,y0,er,ai,ah,ak⟩:=id L;have okr:∀y∈rr,Ok y:=fun y hy=>by
  rw[er] at hy;simp only[Ah,Av,or_false] at hy;rcases hy with rfl|rfl|rfl
  . rcases ai with rfl|rfl
    . exact jw _ (by simp)
    . exact jw _ (by simp)
  . exact hx _ ah
  . rcases Aq.mp ak with z|z
    . exact hx _ z
    . rw[Ap.mp z];exact jw _ (by simp)
 have fin:∀(I:Hp) (t:KA) (d:Deed),BB K R I xs e (b::r) m->DeedX K (rm (Og R (e::opn (b::r))) I) (ListY K (rm (Og R (e::opn (b::r))) I) (B (4-r.length))) t d->Gd xs [d] k->(n0
  (tBM K "list" a44
   (tOp (rIxL K) (tOp (rIxL K) (tVar 0) (tUn (rU fun i=>V.int (-i)) (tC (V.int 1))))
    (tOp (rIxL K) (tLst (iz (tC (V.int 2)) (iz (tC (V.int 3)) tNil)))
     (tCB (fun xs H Q=>∃b,xs=[V.bl b]/\Q (V.int (if b=true then 1 else 0)) H)
      (iz
       (tOp rEq
        (tOp (rIxL K) (tOp (rIxL K) (tVar 0) (tUn (rU fun i=>V.int (-i)) (tC (V.int 1))))
         (tC (V.int 0)))
        (tC (V.str (Bf "else"))))
       tNil))))
   (iz (tVar 5) tNil))) {nx:=fun x H'=>Q V.non H',rt:=Q} [rQ e,some (.str c.wd),rQ g,rQ c.a,rQ c.b,rQ t] I:=fun I t d Y hd hg=>by
  refine⟨_,rfl,_,rfl,e,_,_,_,rfl,rfl,SqL.of Y.last,jh,(szLn 2),fun u hu=>?_⟩;obtain⟨G1,z0,p,k1⟩:=gs hu (.lst [V.int 2,V.int 3]);rw[z0];have o:=Y.same p;have ab:=hd.same (ip (X:=Og R (e::opn (b::r))) p) fun _ _ y=>ListY.same y (ip p);refine⟨_,rfl,_,rfl,e,_,_,_,rfl,rfl,SqL.of o.last,jh,b.ce,_,0,_,rfl,rfl,SqL.of o.hc,at0,rfl,_,rfl,?_⟩;obtain⟨⟨_,⟨al,ao,ka,pa,gA⟩,⟨ar,an,kb,pb,gB⟩⟩,_⟩:=o.st;have cnt:=o.cnt;unfold cntB at cnt;rw[As,Cr] at cnt;have ap:=Ay pa;have aq:=Ay pb;have sa:=gA.short;have sb:=gB.short;by_cases z:b.wd="else"
  . rw[decide_eq_true (show V.str b.wd=V.str (Bf "else") from congrArg V.str z)];refine⟨u,_,1,_,rfl,rfl,SqL.of k1,rfl,b.ce,_,3,_,rfl,rfl,SqL.of o.hc,rfl,.inl ⟨rfl,_,SqL.of kb⟩,_,rfl,b.b,_,_,rfl,rfl,kb,j9 (by rw[Ad];lia),?_⟩;have:=o.appB kb ab hg;rw[ag] at this;exact q _ _ this
  . rw[decide_eq_false (show ¬ V.str b.wd=V.str (Bf "else") from fun y=>z (V.str.inj y))];refine⟨u,_,0,_,rfl,rfl,SqL.of k1,rfl,b.ce,_,2,_,rfl,rfl,SqL.of o.hc,rfl,.inl ⟨rfl,_,SqL.of ka⟩,_,rfl,b.a,_,_,rfl,rfl,ka,j9 (by rw[Ad];lia),?_⟩;have:=o.appA ka ab hg;rw[ag] at this;exact q _ _ this
 refine i5 fun D2 ae _ _=>?_;refine⟨_,rfl,(szLn 0),fun s S=>⟨(szLn 0),fun D N=>⟨(szLn 2),fun v l=>⟨_,rfl,(szLn 4),fun e4 j=>?_⟩⟩⟩⟩;have p:=gk S (.lst []);have k1:(upd G s (.lst [])) s=some (.lst []):=g8;generalize upd G s (.lst [])=G1 at p k1 N l j |-;have s2:=gk N (.lst []);have k2:(upd G1 D (.lst [])) D=some (.lst []):=g8;generalize upd G1 D (.lst [])=G2 at s2 k2 l j |-;have s3:=gk l (.tup [.ref s,.ref D]);have k3:(upd G2 v (.tup [.ref s,.ref D])) v=some (.tup [.ref s,.ref D]):=g8;generalize upd G2 v (.tup [.ref s,.ref D])=G3 at s3 k3 j |-;obtain⟨G4,z1,s4,k4⟩:=gs j (.tup [.str "while",.ref g,.ref v,.ref c.a]);dsimp only[gt];rw[z1];have W:=p.trans s2;have T:=W.trans s3;have U:=T.trans s4;refine ae [rQ e,some (.str c.wd),rQ g,rQ c.a,rQ c.b,rQ e4] _ ?_;clear ae;have Z4:=O.same U;have n1:=O.new S;have n2:=O.new (p.free N);have n3:=O.new (W.free l);have n4:=O.new (T.free j);have rs:=ip (X:=Og R (e::opn (b::r))) U;refine m3 fun D3 ac _ _=>?_;refine⟨_,rfl,rfl,_,rfl,iteB (fun cw=>?_) (fun cw=>?_)⟩
 . refine⟨_,rfl,_,rfl,_,rfl,(szLn 4),fun e5 af=>?_⟩;obtain⟨G5,z2,s5,k5⟩:=gs af (.tup [.str "if",.ref g,.ref c.a,.ref c.b]);dsimp only[gt];rw[z2];refine ac [rQ e,some (.str c.wd),rQ g,rQ c.a,rQ c.b,rQ e5] _ ?_;have n5:=Z4.new af;have M:=rs.trans (ip (X:=Og R (e::opn (b::r))) s5);refine fin G5 e5 (.cond rr da db) (Z4.same s5) (.cond g c.a c.b rr da db (by rw[ib n5];exact k5) (M _ _ J) okr (la.same M) (lb.same M)) ?_;rw[<- hk];exact Gd.cond L ga gb
 . refine ac _ _ ?_;refine fin G4 e4 (.loop rr [] [] da) Z4 (.loop g v c.a s D rr [] [] da (by rw[ib n4];exact k4) (rs _ _ J) okr (by rw[ib n3];exact s4 _ _ k3) ⟨[],by rw[ib n1];exact (s2.trans (s3.trans s4)) _ _ k1,.nil⟩ ⟨[],by rw[ib n2];exact (s3.trans s4) _ _ k2,.nil⟩ (fun _ h=>by cases h) (fun _ h=>by cases h) (by decide) (by decide) (la.same rs)) ?_;have:=Gd.loop L ga;exact this.mono (by lia)
end K55
namespace L2
theorem a2q(f:OpR X (KL op) r)(e:OpR X (KL d) h)(ha:QE X a j)(hb:QE X b i)(hc:QE X c g)(hm:autoParam (lastMarks [op,d] [b,c]=false) a4_):QT X (.Compare a [op,d] [b,c] pos) (t9 (a8c r h j i g)):=⟨a99 f e ha.run hb.run hc.run hm⟩
theorem uv{t:TT}(h:∀c:TS,(b D σ H->c D σ H)->tIfS t a c D σ H):tIfS t a b D σ H:=h b id
end L2
namespace K55
open L2 Mir
abbrev abd:KN:=top 39
theorem BB.start(e:Same H d)(l:H g=none)(n1:H ce=none)(n2:H a=none)(n3:H b=none)(hnd:[g,ce,a,b].Nodup)(j:d g=some (.lst [.ref ce]))(i:d ce=some (.lst [.str "",.non,.ref a,.ref b]))(h:d a=some (.lst []))(kb:d b=some (.lst [])):BB K H d xs g [⟨ce,a,b,"",.non,0,0⟩] 0:=by
 refine⟨e,hnd,fun c hc=>?_,j,⟨⟨i,⟨[],[],h,.nil,.nil xs⟩,⟨[],[],kb,.nil,.nil xs⟩⟩,fun z=>absurd rfl z,trivial⟩,(by show 1<=5;decide),(by show 1<=1;decide)⟩;have f:c∈[g,ce,a,b]:=hc;simp only[Ah,Av,or_false] at f;rcases f with rfl|rfl|rfl|rfl<;>assumption
noncomputable def HeadsAt(H:Hp)(hl:KA)(hs:List (Str×Nat×Bool)):Prop:=∃ts:List KA,H hl=some (.lst (ts.map V.ref))/\KI (fun t (h:Str×Nat×Bool)=>H t=some (.tup [.str h.1,.int (h.2.1:Int),.bl h.2.2])) ts hs
theorem HeadsAt.same(h:HeadsAt H hl hs)(e:Same H H'):HeadsAt H' hl hs:=by
 obtain⟨ts,b,a⟩:=h;exact⟨ts,e _ _ b,Paired.mapP a fun _ _ z=>e _ _ z⟩
theorem aah(p:Str->Prop)(O:N<=1000)(nd:G dl=none)(v:DI G dl w)(A:∀(i:Nat) H2,DI G dl H2->∀s:VK,(∀y g,jt dl H2 g->(∃n:Int,g dl=some (.lst [.int n]))->p y->s (.str y) g)->M (some (.int (0+(i:Int)))::j6 σ E) H2 s)(J:∀D H' ys,DI G dl H'->H' D=some (.lst ((ys:List Str).map V.str))->ys.length=N->(∀y∈ys,p y)->Q (.ref D) H'):rf (Itr 0 N) w σ E tYes M Q:=by
 intro D j;obtain⟨C,n1,k1⟩:=id v;have f:D≠dl:=fun z=>by rw[z,k1] at j;cases j
 have q:G D=none:=C.free j;have put:∀{H:Hp} {ys:List V},DI G dl H->DI G dl (upd H D (.lst ys)):=fun S=>⟨fun b o z=>by rw[f6 (gh z q)];exact S.1 _ _ z,by obtain⟨n,hn⟩:=S.2;exact⟨n,by rw[f6 (AO f)];exact hn⟩⟩
 refine⟨fun i m H=>i<=N/\m=N-i/\∃(ys:List Str),DI G dl H/\H D=some (.lst (ys.map V.str))/\ys.length=i/\∀y∈ys,p y,⟨N,AH _,rfl,[],put v,g8,rfl,(fun r hr=>by cases hr)⟩,?_⟩;rintro i m H ⟨hi,rfl,ys,S,d,a,c⟩;by_cases h:i<N
 . refine .inr ⟨h,fun x H' L=>?_⟩;obtain⟨rfl,rfl⟩:=L;refine A i H' S _ fun y g u n3 hr=>?_;have l:=u _ _ d f;have F:DI G dl g:=⟨fun b o z=>u _ _ (S.1 _ _ z) (gh z nd),n3⟩
   refine⟨ys.map V.str,l,Ba (by rw[Ad];lia:_<=1000) (by decide),N-(i+1),by lia,h,rfl,ys++[y],put F,?_,?_,?_⟩
   . rw[g8,Ax];rfl
   . rw[Ai,a];rfl
   . intro x I;rcases Aq.mp I with z|z
     . exact c x z
     . rw[Ap.mp z];exact hr
 . have e:i=N:=by lia
   subst e;exact .inl ⟨Aj _,J D H ys S d a c⟩
theorem adx(b:∀y∈xs,Ok y)(h:InD xs d):PlOk (.row (rowD d)):=by
 have c:∀{y:Str},y∈xs++[("nil":Str)]->Ok y:=fun h=>(Aq.mp h).elim (fun z=>b _ z) fun z=>by rw[Ap.mp z];exact jw _ (by simp)
 have g:∀{y:Str},yq y->Ok y:=fun h=>by rcases h with rfl|rfl<;>exact jw _ (by simp)
 cases d with
 | set x e=>exact⟨⟨_,_,_,rfl,Ag,rfl⟩,fun y a=>by
  simp only[rowD,Ah,Av,or_false] at a;rcases a with rfl|rfl|rfl
  . exact jw _ (by simp)
  . exact b _ h.1
  . exact c h.2⟩
 | read x y f=>exact⟨⟨_,_,_,rfl,Al _ Ag,rfl⟩,fun z a=>by
  simp only[rowD,Ah,Av,or_false] at a;rcases a with rfl|rfl|rfl|rfl
  . exact jw _ (by simp)
  . exact b _ h.1
  . exact b _ h.2.1
  . exact g h.2.2⟩
 | write y f e=>exact⟨⟨_,_,_,rfl,Al _ (Al _ Ag),rfl⟩,fun z a=>by
  simp only[rowD,Ah,Av,or_false] at a;rcases a with rfl|rfl|rfl|rfl
  . exact jw _ (by simp)
  . exact b _ h.1
  . exact g h.2.1
  . exact c h.2.2⟩
 | new x e f=>exact⟨⟨_,_,_,rfl,Al _ (Al _ (Al _ Ag)),rfl⟩,fun z a=>by
  simp only[rowD,Ah,Av,or_false] at a;rcases a with rfl|rfl|rfl|rfl
  . exact jw _ (by simp)
  . exact b _ h.1
  . exact c h.2.1
  . exact c h.2.2⟩
 | free y=>exact⟨⟨_,_,_,rfl,Al _ (Al _ (Al _ (Al _ Ag))),rfl⟩,fun z a=>by
  simp only[rowD,Ah,Av,or_false] at a;rcases a with rfl|rfl
  . exact jw _ (by simp)
  . exact b _ h⟩
inductive spBody(K:Ab)(vs:List V)(H:Hp)(Q:VK)(E:XK):Prop
 | mk (ca ow ev hl:KA)(ns:List Int)(os:List Str)(xs:Ev)(h0:vs=[.ref ca,.ref ow,.ref ev,.ref hl])(h1:H ca=some (.lst (ns.map V.int)))(h2:ns.length<=28)(h3:H ow=some (.lst (os.map V.str)))(h4:os≠[])(h5:∀y∈os,y∈xs.xs)(h5':os.length<=6)(h6:H ev=some (.lst (xs.xs.map V.str)))(h7:xs.xs.length=6)(h8:∀y∈xs.xs,i8 y=true)(h9:HeadsAt H hl xs.hs)(h10:xs.hs≠[])(h11:xs.hs.length<=6)(h12:∀h∈xs.hs,h.2.1<=8/\i8 h.1=true)(q:∀bd ds H',Same H H'->ListY K (rm (fun c=>∃vs,H c=some (.lst vs)) H') (B 5) bd ds->Gd xs ds ns.length->Q (.ref bd) H'):spBody K vs H Q E
theorem acx(C:Con K mg w)(F:GF K "_law_body" abd)(GF:FC K mg w 2 "_law_fed" yw)(GD:FC K mg w 1 "_law_digit" nh)(GC:FC K mg w 1 "_law_closed" (spClosed K))(GP:FC K mg w 2 "_law_plain" spPlain):FC K mg w 3 "_law_body" (spBody K):=by
 refine F.ok C.gf 4 ["_law_cells","_law_own","_law_every","_law_heads","_law_blocks","_law_cell","_law_digits","_law_way","_law_here","_law_e","_law_condition","_law_name","_law_many","_law_gives","_law_x","_law_given","_law_word"] fun H vs Q E hr h nd=>?_;obtain⟨ca,ow,O,hl,ns,os,xs,rfl,bj,bH,aB,bw,ay,co,ae,aj,bR,cf,bO,ck,cc,q⟩:=h;have cp:=l0 hr;have aa:=hr.mono (j:=1) (by lia);refine⟨_,gc (gu 4 nd (i9 (my (ie (jk qd (my ad (my ad ad)))) ad)))
  (gc (jv AN rfl (oq (K:=K) rfl (qv 0)) (jd 5 nd) (gc (yu (i:=6) nd rfl (Or.inr rfl) (gr GF hr (gj (qv 5) (i0 ad))))
  (gc (gu 7 nd (gr GD aa (gj (qv 6) (i0 ad))))
  (gc (gu 8 nd (gy K (gy K (qv 4) (jx jm dn)) (gy K (i9 (i0 (i0 ad))) (ii mu rfl C.int CU (jk (nj ig (gy K (gy K (qv 4) (jx jm dn)) dn) i7 (ly _)) ad)))))
  (gi (ij (QW.qt (q3 (i6 qo (qv 7) dn) (ny (i6 qo (mh K C.len (gj (qv 4) ad)) dn)))) (gc (gu 9 nd (gy K (gp ky (qv 2) (i9 (ie ad))) (gr GD aa (gj (qv 6) (jb (gp ir (mh K C.len (gj (qv 2) ad)) dn) ad)))))
  (gc (gu 10 nd (j5 (gq (gy K (i9 (ie (ie ad))) (gr GD aa (gj (qv 6) (i0 ad)))) (gq (gy K (qv 2) (gr GD aa (gj (qv 6) (gw (mh K C.len (gj (qv 2) ad)) ad)))) (gj (qv 9) ad)))))
  (gi (ia (jr (K:=K) rfl AF Bg Bh jo (qv 4) (my (gq (gy K (i9 (ie (ie ad))) (gp kg (qv 7) dn)) (gj (qv 10) (my ad (my ad ad)))) ad)))))) (gi (ij (QW.qt (q3 (i6 ig (qv 7) dn) (ny (i6 ig (gy K (gy K (qv 4) (jx jm dn)) dn) i7)))) (gi (pq i7 (yy (gy K (qv 4) (jx jm dn)) dn v6))) (gi (ij (QW.qt (q3 (a2q qo qo dn (qv 7) dn) (ny (i6 xj (mh K C.len (gj (qv 4) ad)) dn)))) (gi (ia (gr GC aa (gj (qv 4) ad)))) (gi (ij (a2q qo qo dn (qv 7) dn) (gc (pq (gy K (qv 3) (gr GD aa (gj (qv 6) (gw (mh K C.len (gj (qv 3) ad)) ad)))) (a42 (jd 11 nd) (jd 12 nd) (jd 13 nd)))
  (gc (gu 14 nd (gy K (qv 1) (gr GD aa (gj (qv 6) (gw (mh K C.len (gj (qv 1) ad)) ad)))))
  (gc (qy ["_law_k","_law_every","_law_digits"] [2,6] (i:=15) nd rfl (Or.inl rfl) (kj rfl C.range (gj (qv 12) ad)) (fun _ _ _ _=>mn) (fun _ _ _ _=>(gy K (gp ky (qv 1) (i9 (ie ad))) (gr GD aa (gj (qv 2) (jb (gp ir (mh K C.len (gj (qv 1) ad)) dn) ad))))))
  (gi (ia (jr (K:=K) rfl AF Bg Bh jo (qv 8) (og (ie (gq (gy K (i9 (ie (gj (qv 14) ad))) (ii mu rfl C.int CU (gj (qv 13) ad))) (gj (qv 11) (gw (ii qh rfl C.tuple E7 (gj (qv 15) ad)) ad)))) ad))))))) (gc (gu 16 nd (gy K (i9 (ie (ie (ie (ie (ie (ie (ie (ie ad))))))))) (gp ji (qv 7) dn)))
  (gi (ia (jr (K:=K) rfl AF Bg Bh jo (qv 8) (gw (gr GP hr (gj (qv 6) (gj (qv 1) (gj (qv 2) (gj (qv 16) ad))))) ad)))))))))))))))))
  (gc (ou AN (i6 xj (mh K C.len (gj (qv 4) ad)) dn) (gi (ia (gr GC aa (gj (qv 4) ad)))))
  (gi (gz (gy K (gy K (qv 4) dn) dn))))),?_⟩
 have au:∀y∈xs.xs,Ok y:=fun y hy=>qp (bR y hy);refine i5 fun D1 a4 _ _=>?_;refine⟨(szLn 0),fun a ha=>⟨(szLn 0),fun b hb=>⟨(szLn 4),fun ce ah=>⟨(szLn 1),fun g ab=>?_⟩⟩⟩⟩;have s1:=gk ha (.lst []);have k1:(upd H a (.lst [])) a=some (.lst []):=g8;generalize upd H a (.lst [])=H1 at s1 k1 hb ah ab |-;have s2:=gk hb (.lst []);have k2:(upd H1 b (.lst [])) b=some (.lst []):=g8;generalize upd H1 b (.lst [])=H2 at s2 k2 ah ab |-;have s3:=gk ah (.lst [.str "",.non,.ref a,.ref b]);have k3:(upd H2 ce (.lst [.str "",.non,.ref a,.ref b])) ce=some (.lst [.str "",.non,.ref a,.ref b]):=g8;generalize upd H2 ce (.lst [.str "",.non,.ref a,.ref b])=H3 at s3 k3 ab |-;obtain⟨H4,z0,W,k4⟩:=gs ab (.lst [.ref ce]);dsimp only[gt];rw[z0];have aY:=s1.trans s2;have aQ:=aY.trans s3;have N:∀{G:Hp} {x y:KA} {o:HO},G x=some o->G y=none->y≠x:=fun h1 h2 z=>by rw[z,h1] at h2;cases h2
 have bd:=N k1 hb;have bv:=N (s2 _ _ k1) ah;have a2:=N k2 ah;have a8:=N (s3 _ _ (s2 _ _ k1)) ab;have bi:=N (s3 _ _ k2) ab;have bb:=N k3 ab;have Z0:BB K H H4 xs g [⟨ce,a,b,"",.non,0,0⟩] 0:=BB.start (aQ.trans W) (aQ.free ab) (aY.free ah) ha (s1.free hb) (by simp[a8,bi,bb,bv,a2,AO bd]) k4 (W _ _ k3) ((s2.trans (s3.trans W)) _ _ k1) ((s3.trans W) _ _ k2);refine a4 [rQ ca,rQ ow,rQ O,rQ hl,rQ g,nQ,nQ,nQ,nQ,nQ,nQ,nQ,nQ,nQ,nQ,nQ,nQ] _ ?_;clear a4 s1 s2 s3 W k1 k2 k3 k4 hb ah ab aY aQ bd bv a2 a8 bi bb;refine kq fun D2 ba _ _=>?_;refine⟨_,rfl,ca,rfl,⟨_,SqL.of (Z0.e _ _ bj)⟩,?_⟩;refine ld (xs:=ns.map V.int) (fun i σ G=>∃(c:Bk) (r:List Bk) (z5 z6 z7 z8 z9 s J L M I D p:Option V),σ=[rQ ca,rQ ow,rQ O,rQ hl,rQ g,z5,z6,z7,z8,z9,s,J,L,M,I,D,p]/\BB K H G xs g (c::r) i) ⟨_,_,none,none,none,none,none,none,none,none,none,none,none,none,rfl,Z0⟩ (fun i σ G _ z=>by obtain⟨c,r,z5,z6,z7,z8,z9,s,J,L,M,I,D,p,rfl,Z⟩:=z;exact SqL.of (Z.e _ _ bj)) ?_ ?_
 . rintro i x σ G hx ⟨c,r,z5,z6,z7,z8,z9,s,J,L,M,I,D,p,rfl,Z⟩;rw[Am] at hx;obtain⟨n,hn,rfl⟩:=AZ.mp hx;have hi:i<ns.length:=(Az.mp hn).1;dsimp only[gt];refine i5 fun E1 bc _ _=>?_;refine⟨_,rfl,n,7,rfl,fun dl S=>?_⟩;have D0:DI G dl (upd G dl (.lst [.int (fedF n 7)])):=⟨gk S _,_,g8⟩
   generalize upd G dl (.lst [.int (fedF n 7)])=G1 at D0 |-;refine bc [rQ ca,rQ ow,rQ O,rQ hl,rQ g,iQ n,rQ dl,z7,z8,z9,s,J,L,M,I,D,p] _ ?_;clear bc;obtain⟨e1,n1,k1⟩:=id D0;refine i5 fun E2 bm _ _=>?_;refine⟨_,rfl,dl,n1,20,rfl,k1,(by decide),(by decide),?_⟩;have aH:=D0.put S (n1 / 20);dsimp only[gt];generalize upd G1 dl (.lst [.int (n1 / 20)])=G2 at aH |-;obtain⟨wy,bS,cj⟩:∃wy:Nat,n1 % 20=(wy:Int)/\wy<20:=⟨(n1 % 20).toNat,by lia,by lia⟩
   rw[bS];refine bm [rQ ca,rQ ow,rQ O,rQ hl,rQ g,iQ n,rQ dl,iQ (wy:Int),z8,z9,s,J,L,M,I,D,p] _ ?_;clear bm D0;have hG:∀{a o},H a=some o->G a=some o:=fun h=>Z.e _ _ h;have low:=Z.low;rw[AB] at low;have ak:(((c::r).map fun c=>V.ref c.ce).reverse).length=r.length+1:=by rw[Dm,Ad,AB]
   refine i5 fun E3 ax _ _=>?_;have Y2:=Z.same aH.1;refine⟨_,rfl,_,rfl,g,_,_,_,rfl,rfl,SqL.of Y2.last,jh,(szLn 2),fun u hu=>?_⟩;obtain⟨G3,z1,s3,k3⟩:=gs hu (.lst [V.int 2,V.int 3]);rw[z1];have D3:=aH.same s3;have Y3:=Y2.same s3;refine⟨_,rfl,_,rfl,g,_,_,_,rfl,rfl,SqL.of Y3.last,jh,c.ce,_,0,_,rfl,rfl,SqL.of Y3.hc,at0,rfl,_,rfl,?_⟩;obtain⟨he,bN,aU,af⟩:∃(he:KA) (j:Int),(atI [V.int 2,V.int 3] (if decide (V.str c.wd=V.str (Bf "else"))=true then 1 else 0)=some (.int j)/\atI [V.str c.wd,c.cd,.ref c.a,.ref c.b] j=some (.ref he))/\(he=c.a\/he=c.b):=by
    by_cases z:c.wd="else"
    . rw[if_pos (decide_eq_true (show V.str c.wd=V.str (Bf "else") from congrArg V.str z))];exact⟨c.b,3,⟨rfl,rfl⟩,.inr rfl⟩
    . rw[if_neg (fun y=>z (V.str.inj (of_decide_eq_true y)))];exact⟨c.a,2,⟨rfl,rfl⟩,.inl rfl⟩
   refine⟨u,_,_,_,rfl,rfl,SqL.of k3,aU.1,c.ce,_,_,_,rfl,rfl,SqL.of Y3.hc,aU.2,?_⟩;dsimp only[gt];refine ax [rQ ca,rQ ow,rQ O,rQ hl,rQ g,iQ n,rQ dl,iQ (wy:Int),rQ he,z9,s,J,L,M,I,D,p] _ ?_;clear ax aU k3;clear aH Y2 s3 hu;obtain⟨e3,n3,k3⟩:=id D3;have fin:∀{G':Hp} {c':Bk} {r':List Bk} {m:Nat} {y9 aF aL aA aK aC aJ aN:Option V},BB K H G' xs g (c'::r') m->m<=i+1->∃(c:Bk) (r:List Bk) (z5 z6 z7 z8 z9 s J L M I D p:Option V),[rQ ca,rQ ow,rQ O,rQ hl,rQ g,iQ n,rQ dl,iQ (wy:Int),rQ he,y9,aF,aL,aA,aK,aC,aJ,aN]=[rQ ca,rQ ow,rQ O,rQ hl,rQ g,z5,z6,z7,z8,z9,s,J,L,M,I,D,p]/\BB K H G' xs g (c::r) (i+1):=fun Z' hm=>⟨_,_,_,_,_,_,_,_,_,_,_,_,_,_,rfl,Z'.mono hm⟩
   have put:∀{G':Hp} {t:KA} {d:Deed} {y9 aF aL aA aK aC aJ aN:Option V},BB K H G' xs g (c::r) i->DeedX K (rm (Og H (g::opn (c::r))) G') (ListY K (rm (Og H (g::opn (c::r))) G') (B (4-r.length))) t d->Gd xs [d] 1->∃ts:List V,G' he=some (.lst ts)/\ts.length<KF/\∃(c:Bk) (r:List Bk) (z5 z6 z7 z8 z9 s J L M I D p:Option V),[rQ ca,rQ ow,rQ O,rQ hl,rQ g,iQ n,rQ dl,iQ (wy:Int),rQ he,y9,aF,aL,aA,aK,aC,aJ,aN]=[rQ ca,rQ ow,rQ O,rQ hl,rQ g,z5,z6,z7,z8,z9,s,J,L,M,I,D,p]/\BB K H (upd G' he (.lst (ts++[.ref t]))) xs g (c::r) (i+1):=fun {G' t d} y9 aF aL aA aK aC aJ aN Y hd hg=>by
    obtain⟨⟨_,⟨aE,aG,ka,pa,gA⟩,⟨bx,br,kb,pb,gB⟩⟩,_⟩:=Y.st;have cnt:=Y.cnt;unfold cntB at cnt;rw[As,Cr] at cnt;have cr:=Ay pa;have cn:=Ay pb;have sa:=gA.short;have sb:=gB.short;rcases af with rfl|rfl
    . exact⟨_,ka,j9 (by rw[Ad];lia),fin (Y.appA ka hd hg) (Aj _)⟩
    . exact⟨_,kb,j9 (by rw[Ad];lia),fin (Y.appB kb hd hg) (Aj _)⟩
   have l6:((xs.xs.map V.str).length:Int)=6:=by rw[Ad,aj];rfl
   have cl:0<os.length:=Do.mpr bw;have cx:0<xs.hs.length:=Do.mpr bO;refine uv fun b1 aM=>?_;have ar:=aM (by
    refine uv fun b2 az=>?_;have aO:=az (by
     refine uv fun b3 aD=>?_;have ap:=aD (by
      refine uv fun b4 aW=>?_;have aw:=aW (by
       clear aM az aD aW;refine i5 fun E4 am _ _=>?_;refine⟨(szLn 8),fun u hu=>?_⟩;have W:=gk hu (.lst (([("set":Str),"read","write","new","free","set","new","read"]:List Str).map V.str));have k4:(upd G3 u (.lst (([("set":Str),"read","write","new","free","set","new","read"]:List Str).map V.str))) u=some (.lst (([("set":Str),"read","write","new","free","set","new","read"]:List Str).map V.str)):=g8;obtain⟨vw,bB,be⟩:=o0 (xs:=([("set":Str),"read","write","new","free","set","new","read"]:List Str).map V.str) (m:=8) (i:=(wy:Int)) rfl (by decide);obtain⟨wd,aI,rfl⟩:=AA.mp be;refine⟨_,rfl,_,_,rfl,rfl,(show (0:Int)<8 by decide),u,_,_,_,rfl,rfl,SqL.of k4,bB,?_⟩;dsimp only[gt];have D4:=D3.same W;refine am [rQ ca,rQ ow,rQ O,rQ hl,rQ g,iQ n,rQ dl,iQ (wy:Int),rQ he,z9,s,J,L,M,I,D,some (.str wd)] (upd G3 u (.lst (([("set":Str),"read","write","new","free","set","new","read"]:List Str).map V.str))) ?_;clear am k4 bB be;generalize upd G3 u (.lst (([("set":Str),"read","write","new","free","set","new","read"]:List Str).map V.str))=G4 at W D4 |-;obtain⟨e4,n4,k4⟩:=id D4;have Y4:=Z.same e4;have bt:wd∈([("set":Str),"read","write","new","free"]:List Str):=by
        simp only[Ah,Av,or_false] at aI |-;rcases aI with h|h|h|h|h|h|h|h<;>simp[h]
       have ag:∃ts:List V,G4 he=some (.lst ts):=by
        obtain⟨⟨_,⟨aE,aG,ka,_⟩,⟨bx,br,kb,_⟩⟩,_⟩:=Y4.st;rcases af with rfl|rfl
        . exact⟨_,ka⟩
        . exact⟨_,kb⟩
       obtain⟨bM,ag⟩:=ag;refine⟨_,rfl,.inl ⟨rfl,_,SqL.of ag⟩,?_⟩;refine⟨_,rfl,_,rfl,_,rfl,_,rfl,.mk dl ow O n4 os xs.xs wd rfl k4 (e4 _ _ (hG aB)) (e4 _ _ (hG ae)) bw ay (fun z=>by rw[z] at aj;cases aj) (by lia) (by lia) (fun z=>by have y:=hG aB;rw[z,S] at y;cases y) (fun z=>by have y:=hG ae;rw[z,S] at y;cases y) bt fun d n5 t G5 e5 k5 kt bz=>?_⟩;have aV:Same G G5:=fun b o z=>e5 _ _ (e4 _ _ z) (gh z S);have Y5:=Z.same aV;have nt:¬ Og H (g::opn (c::r)) t:=fun z=>by
        rcases z with z|⟨vs,z⟩
        rotate_left
        . have y:=aV _ _ (Z.e _ _ z);rw[kt] at y;cases y
        obtain⟨o,ho⟩:=Z.live t z;have y:=aV _ _ ho;rw[kt] at y;rcases Ah.mp z with z|z
        . rw[z,Z.w] at ho;cases ho;cases y
        . have key:∀{cs:List Bk} {GG:Hp},StkAt K GG G xs cs->t∈opn cs->∃l,G t=some (.lst l):=by
           intro cs;induction cs with
           | nil=>intro GG _ h;cases h
           | cons c r ih =>
            intro GG h hx;obtain⟨⟨hc,⟨_,_,ha,_⟩,⟨_,_,hb,_⟩⟩,_,hs⟩:=h;rw[j7] at hx;simp only[Ah] at hx;rcases hx with hx|hx|hx|hx
            . exact⟨_,by rw[hx];exact hc⟩
            . exact⟨_,by rw[hx];exact ha⟩
            . exact⟨_,by rw[hx];exact hb⟩
            . exact ih hs hx
          obtain⟨l,a6⟩:=key Z.st z;rw[ho] at a6;cases a6;cases y
       obtain⟨ts,h1,h2,h3⟩:=put (d:=.plain (.row (rowD d))) Y5 (.plain _ (by show rm _ G5 t=_;rw[ib nt];exact kt) (adx au bz)) (Gd.one (n:=0) ⟨d,rfl,bz⟩ (fun _=>Aj _) (fun _ _ h=>by cases h));exact⟨he,_,_,rfl,rfl,h1,h2,h3⟩)
      clear aM az aD aW;refine⟨_,rfl,_,_,rfl,rfl,_,rfl,iteB (fun c1=>⟨_,_,rfl,rfl,_,rfl,iteB (fun T=>?_) (fun T=>aw)⟩) (fun c1=>⟨_,rfl,(if_neg Ak).mpr aw⟩)⟩;clear aw;obtain⟨al,aP,hpr⟩:=id (cf.same Z.e);have ci:=Ay hpr;have lh:((al.map V.ref).length:Int)=(xs.hs.length:Int):=by rw[Ad,ci]
      refine i5 fun E4 am _ _=>?_;refine⟨_,rfl,_,rfl,_,rfl,hl,_,rfl,.inl (SqL.of (e3 _ _ aP)),dl,n3,((al.map V.ref).length:Int),rfl,k3,(by rw[lh];lia),(by rw[lh];exact Fl (show (xs.hs.length:Int)<=6 by lia) (by decide)),?_⟩;have D4:=D3.put S (n3 / ((al.map V.ref).length:Int));generalize upd G3 dl (.lst [.int (n3 / ((al.map V.ref).length:Int))])=G4 at D4 |-;obtain⟨e4,n4,k4⟩:=id D4;obtain⟨vh,b5,aq⟩:=o0 (xs:=al.map V.ref) (m:=((al.map V.ref).length:Int)) (i:=n3) rfl (by rw[lh];lia);obtain⟨ht,bW,rfl⟩:=AA.mp aq;obtain⟨hj,ch⟩:=DU bW;obtain⟨hd,b0,bZ⟩:=Paired.nth hpr ch;have a1:hd∈xs.hs:=AE b0;obtain⟨ct,bQ⟩:=cc hd a1;refine⟨hl,_,_,_,rfl,rfl,SqL.of (e4 _ _ aP),b5,ht,_,rfl,SqT.of (e4 _ _ bZ),rfl,_,_,rfl,_,_,rfl,_,_,rfl,rfl,?_⟩;refine am [rQ ca,rQ ow,rQ O,rQ hl,rQ g,iQ n,rQ dl,iQ (wy:Int),rQ he,z9,s,some (.str hd.1),iQ (hd.2.1:Int),some (.bl hd.2.2),I,D,p] _ ?_;clear am D3 e3 k3;refine i5 fun E5 av _ _=>?_;refine⟨_,rfl,_,rfl,_,rfl,ow,_,rfl,.inl (SqL.of (e4 _ _ (hG aB))),dl,n4,((os.map V.str).length:Int),rfl,k4,(by rw[Ad];lia),(by rw[Ad];exact Fl (show (os.length:Int)<=6 by lia) (by decide)),?_⟩;have D5:=D4.put S (n4 / ((os.map V.str).length:Int));generalize upd G4 dl (.lst [.int (n4 / ((os.map V.str).length:Int))])=G5 at D5 |-;obtain⟨e5,n5,k5⟩:=id D5;obtain⟨vx,bU,cg⟩:=o0 (xs:=os.map V.str) (m:=((os.map V.str).length:Int)) (i:=n4) rfl (by rw[Ad];lia);obtain⟨x0,aX,rfl⟩:=AA.mp cg;refine⟨ow,_,_,_,rfl,rfl,SqL.of (e5 _ _ (hG aB)),bU,?_⟩;dsimp only[gt];refine av [rQ ca,rQ ow,rQ O,rQ hl,rQ g,iQ n,rQ dl,iQ (wy:Int),rQ he,z9,s,some (.str hd.1),iQ (hd.2.1:Int),some (.bl hd.2.2),some (.str x0),D,p] _ ?_;clear av D4 e4 k4;refine i5 fun E6 a5 _ _=>?_;refine⟨_,rfl,(hd.2.1:Int),rfl,(by lia),(by lia),?_⟩;rw[Bv];refine aah (fun y=>y∈xs.xs++[("nil":Str)]) (by lia) S D5 (fun j G6 D6 Q' q'=>?_) (fun gl G6 ys D6 bJ bL bn=>?_)
      . obtain⟨e6,n6,k6⟩:=id D6;refine⟨_,rfl,(szLn 1),fun u hu=>?_⟩;obtain⟨G7,z2,s7,k7⟩:=gs hu (.lst [V.str "nil"]);rw[z2];refine⟨O,u,_,_,rfl,rfl,s7 _ _ (e6 _ _ (hG ae)),k7,io (by rw[Ad,aj];decide),fun u2 ai=>?_⟩;obtain⟨G8,z3,s8,k8⟩:=gs ai (.lst (xs.xs.map V.str++[V.str "nil"]));rw[z3];have e8:=s7.trans s8;have l7:((xs.xs.map V.str).length:Int)+1=7:=by rw[l6];rfl
        refine⟨_,rfl,_,rfl,O,_,rfl,.inl (SqL.of (e8 _ _ (e6 _ _ (hG ae)))),_,_,rfl,rfl,dl,n6,((xs.xs.map V.str).length:Int)+1,rfl,e8 _ _ k6,(by rw[l7];decide),(by rw[l7];decide),?_⟩;rw[l7];obtain⟨ve,aR,aq⟩:=o0 (xs:=xs.xs.map V.str++[V.str "nil"]) (m:=7) (i:=n6) (by rw[Ai,Ad,aj];rfl) (by decide);obtain⟨e0,rfl,aZ⟩:∃e0:Str,ve=.str e0/\e0∈xs.xs++[("nil":Str)]:=by
         rcases Aq.mp aq with z|z
         . obtain⟨y,hy,rfl⟩:=AA.mp z;exact⟨y,rfl,AD _ hy⟩
         . exact⟨_,Ap.mp z,AG _ (Ap.mpr rfl)⟩
        have nu:u2≠dl:=fun z=>by rw[z,s7 _ _ k6] at ai;cases ai
        refine⟨u2,_,_,_,rfl,rfl,SqL.of (by rw[f6 nu];exact k8),aR,?_⟩;exact q' e0 _ (fun b o z nb=>by rw[f6 nb];exact e8 _ _ z) ⟨_,g8⟩ aZ
      obtain⟨e6,n6,k6⟩:=id D6;refine a5 [rQ ca,rQ ow,rQ O,rQ hl,rQ g,iQ n,rQ dl,iQ (wy:Int),rQ he,z9,s,some (.str hd.1),iQ (hd.2.1:Int),some (.bl hd.2.2),some (.str x0),rQ gl,p] _ ?_;clear a5 D5 e5 k5;have ag:∃ts:List V,G6 he=some (.lst ts):=by
       obtain⟨⟨_,⟨aE,aG,ka,_⟩,⟨bx,br,kb,_⟩⟩,_⟩:=(Z.same e6).st;rcases af with rfl|rfl
       . exact⟨_,ka⟩
       . exact⟨_,kb⟩
      obtain⟨bM,ag⟩:=ag;refine⟨_,rfl,.inl ⟨rfl,_,SqL.of ag⟩,?_⟩;refine⟨_,rfl,(szLn 2),fun u hu=>?_⟩;obtain⟨G7,z4,s7,k7⟩:=gs hu (.lst [V.str "",V.str x0]);rw[z4];obtain⟨rx,bG,ac⟩:∃rx:Str,atI [V.str "",V.str x0] (if hd.2.2=true then 1 else 0)=some (.str rx)/\(hd.2.2=true/\rx=x0\/hd.2.2=false/\rx=""):=by
       cases hd.2.2 with
       | true=>exact⟨x0,rfl,.inl ⟨rfl,rfl⟩⟩
       | false=>exact⟨"",rfl,.inr ⟨rfl,rfl⟩⟩
      refine⟨_,rfl,_,rfl,u,_,_,_,rfl,rfl,SqL.of k7,bG,_,rfl,_,rfl,gl,_,rfl,.inl ⟨SqL.of (s7 _ _ bJ),fun v hv=>?_⟩⟩;obtain⟨G8,y1,s8,k8⟩:=gs hv (.tup (ys.map V.str));rw[y1];refine⟨(szLn 4),fun t bu=>?_⟩;obtain⟨G9,y2,s9,k9⟩:=gs bu (.tup [.str "call",.str rx,.str hd.1,.ref v]);dsimp only;rw[y2];have e9:=((e6.trans s7).trans s8).trans s9;have nv:=Z.new ((e6.trans s7).free hv);have nt:=Z.new (((e6.trans s7).trans s8).free bu);have okn:Ok hd.1:=qp bQ;have bC:Ok rx:=by
       rcases ac with⟨_,rfl⟩|⟨_,rfl⟩
       . exact au _ (ay _ aX)
       . exact jw _ (by simp)
      have a3:∀y∈ys,Ok y:=fun y hy=>(Aq.mp (bn y hy)).elim (fun z=>au _ z) fun z=>by rw[Ap.mp z];exact jw _ (by simp)
      have dg:DG xs (.plain (.call rx hd.1 ys)):=by
       refine⟨?_,bn,hd.2.2,by rw[bL];exact a1,?_,?_,?_⟩
       . rcases ac with⟨_,rfl⟩|⟨_,rfl⟩
         . exact .inr (ay _ aX)
         . exact .inl rfl
       . rcases ac with⟨h,_⟩|⟨_,h⟩
         . exact .inl h
         . exact .inr h
       . rcases ac with⟨h,_⟩|⟨_,h⟩
         . exact fun z=>by rw[h] at z;cases z
         . exact fun _=>h
       . rcases ac with⟨_,h⟩|⟨h,_⟩
         . exact fun _=>by rw[h];exact ay _ aX
         . exact fun z=>by rw[h] at z;cases z
      obtain⟨ts,h1,h2,h3⟩:=put (d:=.plain (.call rx hd.1 ys)) (Z.same e9) (.plain _ ⟨v,by rw[ib nt];exact k9,by rw[ib nv];exact s9 _ _ k8⟩ ⟨bC,okn,a3⟩) (Gd.one (n:=0) dg (fun _=>Aj _) (fun _ _ h=>by cases h));exact⟨he,_,_,rfl,rfl,h1,h2,h3⟩)
     clear aD;refine⟨_,rfl,_,_,rfl,rfl,_,rfl,iteB (fun c1=>⟨_,_,rfl,rfl,_,rfl,iteB (fun T=>⟨_,rfl,g,_,rfl,.inl (SqL.of Y3.w),_,_,rfl,rfl,_,rfl,iteB (fun cw=>?_) (fun c3=>ap)⟩) (fun T=>?_)⟩) (fun c1=>?_)⟩
     . obtain⟨T,r2,rfl⟩:∃T r2,r=T::r2:=by
        cases r with
        | nil=>exact absurd (of_decide_eq_true cw) (by simp)
        | cons T r2=>exact⟨T,r2,rfl⟩
       exact⟨_,rfl,.mk H xs g c T r2 i rfl Y3 (by lia) au fun H' b' Z'=>fin Z' (Bs _)⟩
     . exact (if_neg Ak).mpr ap
     . exact⟨_,rfl,(if_neg Ak).mpr ap⟩)
    clear az;refine⟨_,rfl,rfl,_,rfl,iteB (fun c1=>⟨_,rfl,_,rfl,g,_,_,_,rfl,rfl,SqL.of Y3.last,jh,c.ce,_,0,_,rfl,rfl,SqL.of Y3.hc,at0,rfl,_,rfl,iteB (fun T=>?_) (fun T=>aO)⟩) (fun c1=>(if_neg Ak).mpr aO)⟩;refine⟨_,rfl,_,rfl,g,_,_,_,rfl,rfl,SqL.of Y3.last,jh,c.ce,_,0,0,rfl,rfl,Y3.hc,rfl,?_⟩;exact fin (Y3.word "else") (Bs _))
   clear aM;refine⟨_,rfl,_,_,rfl,rfl,_,rfl,iteB (fun c1=>⟨_,rfl,g,_,rfl,.inl (SqL.of Y3.w),_,_,rfl,rfl,_,rfl,iteB (fun T=>?_) (fun T=>ar)⟩) (fun c1=>(if_neg Ak).mpr ar)⟩;clear ar;have cv:wy<5:=by have:=of_decide_eq_true c1;lia
   have b8:(c::r).length<5:=by have:=of_decide_eq_true T;rw[ak] at this;rw[AB];lia
   refine i5 fun E3 ax _ _=>?_;refine⟨_,rfl,(szLn 1),fun u hu=>?_⟩;obtain⟨G4,y3,W,k4⟩:=gs hu (.lst [V.str "nil"]);rw[y3];refine⟨O,u,_,_,rfl,rfl,W _ _ (e3 _ _ (hG ae)),k4,io (by rw[Ad,aj];decide),fun u2 ai=>?_⟩;obtain⟨G5,y4,s5,k5⟩:=gs ai (.lst (xs.xs.map V.str++[V.str "nil"]));rw[y4];have D5:=D3.same (W.trans s5);obtain⟨e5,n5,a9⟩:=id D5;have l7:((xs.xs.map V.str).length:Int)+1=7:=by rw[l6];rfl
   refine⟨_,rfl,_,rfl,O,_,rfl,.inl (SqL.of (e5 _ _ (hG ae))),_,_,rfl,rfl,dl,n5,((xs.xs.map V.str).length:Int)+1,rfl,a9,(by rw[l7];decide),(by rw[l7];decide),?_⟩;rw[l7];have D6:=D5.put S (n5 / 7);have nu:u2≠dl:=fun z=>by rw[z,W _ _ k3] at ai;cases ai
   have k6:(upd G5 dl (.lst [.int (n5 / 7)])) u2=some (.lst (xs.xs.map V.str++[V.str "nil"])):=by rw[f6 nu];exact k5
   generalize upd G5 dl (.lst [.int (n5 / 7)])=G6 at D6 k6 |-;obtain⟨ve,aR,aq⟩:=o0 (xs:=xs.xs.map V.str++[V.str "nil"]) (m:=7) (i:=n5) (by rw[Ai,Ad,aj];rfl) (by decide);obtain⟨e0,rfl,aZ⟩:∃e0:Str,ve=.str e0/\e0∈xs.xs++[("nil":Str)]:=by
    rcases Aq.mp aq with z|z
    . obtain⟨y,hy,rfl⟩:=AA.mp z;exact⟨y,rfl,AD _ hy⟩
    . exact⟨_,Ap.mp z,AG _ (Ap.mpr rfl)⟩
   refine⟨u2,_,_,_,rfl,rfl,SqL.of k6,aR,?_⟩;dsimp only[gt];refine ax [rQ ca,rQ ow,rQ O,rQ hl,rQ g,iQ n,rQ dl,iQ (wy:Int),rQ he,some (.str e0),s,J,L,M,I,D,p] _ ?_;clear ax D5 e5 a9 k5 k6 k4;refine i5 fun E5 av _ _=>?_;refine⟨(szLn 2),fun u3 a0=>?_⟩;have s7:=gk a0 (.lst [V.str "is",V.str "not"]);have k7:(upd G6 u3 (.lst [V.str "is",V.str "not"])) u3=some (.lst [V.str "is",V.str "not"]):=g8;obtain⟨e6,n6,k6⟩:=id D6;generalize upd G6 u3 (.lst [V.str "is",V.str "not"])=G7 at s7 k7 |-;have D7:=D6.same s7;obtain⟨e7,n7,bT⟩:=id D7;refine⟨_,rfl,dl,n7,2,rfl,bT,(by decide),(by decide),?_⟩;have D8:=D7.put S (n7 / 2);have k8:(upd G7 dl (.lst [.int (n7 / 2)])) u3=some (.lst [V.str "is",V.str "not"]):=by rw[f6 (fun z=>by rw[z,k6] at a0;cases a0)];exact k7
   generalize upd G7 dl (.lst [.int (n7 / 2)])=G8 at D8 k8 |-;obtain⟨vf,bV,bp⟩:=o0 (xs:=[V.str "is",V.str "not"]) (m:=2) (i:=n7) rfl (by decide);obtain⟨f0,rfl,bF⟩:∃f0:Str,vf=.str f0/\(f0="is" \/ f0="not"):=by
    simp only[Ah,Av,or_false] at bp;rcases bp with z|z
    . exact⟨_,z,.inl rfl⟩
    . exact⟨_,z,.inr rfl⟩
   obtain⟨e8,n8,bI⟩:=id D8;refine⟨u3,_,_,_,rfl,rfl,SqL.of k8,bV,_,rfl,_,rfl,_,rfl,O,_,rfl,.inl (SqL.of (e8 _ _ (hG ae))),dl,n8,((xs.xs.map V.str).length:Int),rfl,bI,(by rw[l6];decide),(by rw[l6];decide),?_⟩;rw[l6];have D9:=D8.put S (n8 / 6);generalize upd G8 dl (.lst [.int (n8 / 6)])=G9 at D9 |-;obtain⟨e9,n9,cu⟩:=id D9;obtain⟨vy,b9,b7⟩:=o0 (xs:=xs.xs.map V.str) (m:=6) (i:=n8) l6 (by decide);obtain⟨y0,b6,rfl⟩:=AA.mp b7;refine⟨O,_,_,_,rfl,rfl,SqL.of (e9 _ _ (hG ae)),b9,_,rfl,(szLn 3),fun cd hcd=>?_⟩;obtain⟨bo,y5,bA,ao⟩:=gs hcd (.tup [V.str f0,V.str y0,V.str e0]);change bo cd=some (.tup (([f0,y0,e0]:List Str).map V.str)) at ao;dsimp only[gt];rw[y5];have bP:lz xs [f0,y0,e0]:=⟨f0,y0,e0,rfl,bF,b6,aZ⟩
   refine av [rQ ca,rQ ow,rQ O,rQ hl,rQ g,iQ n,rQ dl,iQ (wy:Int),rQ he,some (.str e0),rQ cd,J,L,M,I,D,p] _ ?_;clear av;have bX:G cd=none:=e9.free hcd;have eG:=e9.trans bA;have Y:=Z.same eG;clear D3 D6 D7 D8 D9;refine⟨_,rfl,.inl ⟨rfl,_,SqL.of Y.w⟩,(szLn 2),fun u hu=>?_⟩;obtain⟨bq,y6,s1,k1⟩:=gs hu (.lst [V.str "if",V.str "while"]);rw[y6];obtain⟨wd,aI⟩:∃wd:Str,atI [V.str "if",V.str "while"] ((wy:Int) / 3)=some (.str wd):=by
    by_cases z:wy<3
    . rw[show (wy:Int) / 3=0 by lia];exact⟨_,rfl⟩
    . rw[show (wy:Int) / 3=1 by lia];exact⟨_,rfl⟩
   refine⟨_,rfl,_,_,rfl,rfl,(show CDiv _ 3 from⟨by decide,by decide⟩),u,_,_,_,rfl,rfl,SqL.of k1,aI,_,rfl,(szLn 0),fun a' aT=>⟨(szLn 0),fun b' an=>⟨(szLn 4),fun aS R=>?_⟩⟩⟩;have s2:=gk aT (.lst []);have k2:(upd bq a' (.lst [])) a'=some (.lst []):=g8;generalize upd bq a' (.lst [])=a7 at s2 k2 an R |-;have s3:=gk an (.lst []);have k3:(upd a7 b' (.lst [])) b'=some (.lst []):=g8;generalize upd a7 b' (.lst [])=bg at s3 k3 R |-;obtain⟨cm,y7,W,k4⟩:=gs R (.lst [.str wd,.ref cd,.ref a',.ref b']);dsimp only;rw[y7];have bD:=eG.trans s1;have bf:=bD.trans s2;have bh:=bf.trans s3;have bE:=(((s1.trans s2).trans s3).trans W) _ _ ao;refine⟨g,_,_,rfl,rfl,(((s1.trans s2).trans s3).trans W) _ _ Y.w,j9 (by rw[ak];lia),?_⟩;exact fin (Z.push (bh.trans W) b8 (by simp) (bh.free R) (bD.free aT) (bf.free an) bX (N (s3 _ _ k2) R) (N k3 R) (AO (N k2 an)) bE ⟨AO (N ((s1.trans (s2.trans s3)) _ _ ao) R),AO (N (s1 _ _ ao) aT),AO (N ((s1.trans s2) _ _ ao) an)⟩ bP k4 ((s3.trans W) _ _ k2) (W _ _ k3)) (Aj _)
 . rintro σ G ⟨c,r,z5,z6,z7,z8,z9,s,J,L,M,I,D,p,rfl,Z⟩;refine ba _ _ ?_;clear ba;rw[Ad] at Z;refine ke (a:=ui _ _) fun D3 bY _ _=>?_;refine⟨fun m σ G=>∃(c:Bk) (r:List Bk),m=r.length/\σ=[rQ ca,rQ ow,rQ O,rQ hl,rQ g,z5,z6,z7,z8,z9,s,J,L,M,I,D,p]/\BB K H G xs g (c::r) ns.length,⟨_,c,r,rfl,rfl,Z⟩,?_⟩;clear Z c r;rintro m σ G ⟨c,r,rfl,rfl,Z⟩;have ak:(((c::r).map fun c=>V.ref c.ce).reverse).length=r.length+1:=by rw[Dm,Ad,AB]
   refine⟨_,rfl,g,_,rfl,.inl (SqL.of Z.w),_,_,rfl,rfl,_,rfl,iteB (fun c1=>?_) (fun c1=>?_)⟩
   . obtain⟨T,r2,rfl⟩:∃T r2,r=T::r2:=by
      cases r with
      | nil=>exact absurd (of_decide_eq_true c1) (by simp)
      | cons T r2=>exact⟨T,r2,rfl⟩
     refine⟨fun σ' G'=>∃b',σ'=[rQ ca,rQ ow,rQ O,rQ hl,rQ g,z5,z6,z7,z8,z9,s,J,L,M,I,D,p]/\BB K H G' xs g (b'::r2) ns.length,fun σ' G' hN=>?_,?_⟩
     . obtain⟨b',rfl,Z'⟩:=hN;exact⟨r2.length,Ce _,b',r2,rfl,rfl,Z'⟩
     . exact⟨_,rfl,.mk H xs g c T r2 ns.length rfl Z bH au fun H' b' Z'=>⟨b',rfl,Z'⟩⟩
   . have e1:r=[]:=by
      cases r with
      | nil=>rfl
      | cons T r2=>exact absurd (show (((((c::T::r2).map fun c=>V.ref c.ce).reverse).length:Nat):Int)>1 by rw[ak,AB];lia) (of_decide_eq_false c1)
     subst e1;refine bY _ _ ?_;refine⟨_,rfl,g,_,0,_,rfl,rfl,SqL.of Z.w,at0,c.ce,_,2,_,rfl,rfl,SqL.of Z.hc,rfl,?_⟩;obtain⟨⟨_,⟨aE,aG,ka,pa,gA⟩,_⟩,_⟩:=Z.st;have cnt:=Z.cnt;unfold cntB at cnt;rw[As,Cr] at cnt;have sa:=gA.short;have hg:=gA.mono (n:=ns.length) (by lia);have sb:Same (rm (Og H (g::opn [c])) G) (rm (fun c=>∃vs,H c=some (.lst vs)) G):=zc fun _ h=>.inr h;have cb:H c.a=none:=Z.fr _ (by rw[j7];simp);have sA:Same (rm (Og H (g::opn [c])) G) (rm (fun x=>x=c.a) (rm (fun c=>∃vs,H c=some (.lst vs)) G)):=fun x o y=>by
      rw[ib (X:=fun x=>x=c.a) (fun w=>(j4 y).1 (.inl (Al _ (by rw[w,j7];simp))))];exact sb _ _ y
     exact q c.a aG G Z.e ⟨aE,by rw[ib (fun z=>by obtain⟨vs,z⟩:=z;rw[cb] at z;cases z)];exact ka,Paired.mapP pa fun _ _ z=>z.same sA fun _ _ y=>ListY.same y sA,by rw[Ay pa];lia⟩ hg
end K55
namespace L2
open PyProof.Rows
theorem vm(h:Vals xs us):∀a:List Nat,Vals (a.filterMap (xs[·]?)) (a.filterMap (us[·]?))
 | []=>.nil
 | i::a=>by
  cases e:xs[i]? with
  | none =>
   have b:us[i]?=none:=by
    rw[List.getElem?_eq_none_iff] at e |-;rw[<- h.length];exact e
   rw[GJ (f:=(xs[·]?)) e,GJ (f:=(us[·]?)) b];exact vm h a
  | some x =>
   obtain⟨u,b,r⟩:=h.get e;rw[GQ (f:=(xs[·]?)) e,GQ (f:=(us[·]?)) b];exact .cons r (vm h a)
noncomputable def af6(K:Ab)(te:TE)(tl:TO)(ts:TE):TE:=fun σ H Q=>te σ H fun x H1=>tl σ H1 fun _ H2=>ts σ H2 fun y H3=>∃a xs k,x=.ref a/\y=.int k/\k≠0/\SqL K H3 a xs/\∀p ys,H3 p=none->(∀y∈ys,y∈xs)->ys.length<=xs.length->Q (.ref p) (upd H3 p (.lst ys))
theorem a96{K:Ab}(hK:X.K=K){lo:Option Expr}(G:QE X e te)(hl:QO X lo tl)(hs:QE X (.Name y p3) ts):QE X (.Subscript e (.Slice lo none (some (.Name y p3)) p2) pos) (af6 K te tl ts):=by
 subst hK;refine⟨fun c s σ H Q I h=>?_⟩;refine Subscript_ (thn (G.run c s σ H _ I h) fun v R ⟨x,E,O,F,q1⟩=>?_);refine Jm (thn (hl.run c R σ E _ O q1) fun j M ⟨l,P,S,pl,T⟩=>?_);rw[FP];refine Ae ?_;rw[Iu];refine thn (hs.run c M σ P _ S T) fun u d ⟨y,H3,p,L,Y⟩=>?_;obtain⟨a,xs,k,rfl,rfl,N,U,q⟩:=Y;cases F;obtain⟨t,rfl⟩:=L;obtain⟨its,r,ht,hz⟩:=p.list U;have D:=r.length;have z:Inv X c σ H3 {d with heap:=d.heap.push {cls:=.type "slice",data:=.fields #[j,.none,.int k t]}}:=p.kept (t':=d.toks) fun b ob q=>Ac _ q;have g:Jo (d.heap.push {cls:=.type "slice",data:=.fields #[j,.none,.int k t]}) a its.toArray:=ht.isList.push _;have n:EN {d with heap:=d.heap.push {cls:=.type "slice",data:=.fields #[j,.none,.int k t]}} (.ref a) "list" := IX (s:={d with heap:=d.heap.push {cls:=.type "slice",data:=.fields #[j,.none,.int k t]}}) g;show KC (KE X.prog X.w) X.A (subscriptTail e (.Slice lo none (some (.Name _ p3)) p2) (.ref a) (.ref d.heap.objs.size)) (EP X c σ Q) X.xe {d with heap:=d.heap.push {cls:=.type "slice",data:=.fields #[j,.none,.int k t]}};refine tail_any (ops:=[.ref a,.ref d.heap.objs.size]) n EC.lookup ?_ (by with_unfolding_all rfl);refine Eg g (FB ..) pl .none (.int k t) (by simpa using N) ?_ (by rw[Ao]<;>lia);have f:=slicePick_size_le its.toArray l none (some k);unfold slicePick at f |-;rw[Ao,Ao] at f;generalize sliceRange (Kl l none (some k) its.toArray.size).1 (Kl l none (some k) its.toArray.size).2.1 (Kl l none (some k) its.toArray.size).2.2=m at f |-;have J:m.filterMap (its.toArray[·]?)=m.filterMap (its[·]?):=by simp
 rw[J] at f |-;have C:=vm r m;have aa:=C.length;refine⟨.ref _,_,z.laid (t':=d.toks) (o:=.lst (m.filterMap (xs[·]?))) (fun b ob q=>Ac _ q) (Aj _) ?_,rfl,q _ _ (z.hok.fresh (Aj _)) (fun y Z=>?_) (by lia)⟩
 . exact⟨by lia,_,0,C,An _ rfl⟩
 . obtain⟨i,_,hi⟩:=IJ.mp Z;exact AE hi
end L2
namespace K55
open L2 Mir
abbrev abh:KN:=top 40
noncomputable def rq(p:Prc):Str×Nat×Bool:=(p.name,p.ps.length,decide (p.res≠""))
structure PcOk(xs:List Str)(hs:List (Str×Nat×Bool))(p:Prc):Prop where
 pl:p.ps.length<=2
 pn:p.ps.Nodup
 px:∀y∈p.ps,y∈xs
 nm:p.name∈xs
 res:p.res="" \/ p.res∈xs
 tl:p.F1=[]/\p.P1=[]/\p.F2=[]/\p.P2=[]
 bd:Gd ⟨xs,hs⟩ p.body 28
structure PcsOk(xs:List Str)(pcs:List Prc):Prop where
 ok:∀p∈pcs,PcOk xs (pcs.map rq) p
 nn:(pcs.map (·.name)).Nodup
 l1:1<=pcs.length
 l3:pcs.length<=3
theorem InD.mono(h:∀y∈xs,y∈ys)(hd:InD xs d):InD ys d:=by
 have e:∀{y:Str},y∈xs++[("nil":Str)]->y∈ys++[("nil":Str)]:=fun a=>(Aq.mp a).elim (fun z=>AD _ (h _ z)) fun z=>AG _ z;cases d with
 | set x y=>exact⟨h _ hd.1,e hd.2⟩
 | read x y f=>exact⟨h _ hd.1,h _ hd.2.1,hd.2.2⟩
 | write y f z=>exact⟨h _ hd.1,hd.2.1,e hd.2.2⟩
 | new x y z=>exact⟨h _ hd.1,e hd.2.1,e hd.2.2⟩
 | free y=>exact h _ hd
theorem DG.mono(h:∀y∈xs,y∈ys)(hd:DG ⟨xs,hs⟩ d):DG ⟨ys,hs⟩ d:=by
 have e:∀{y:Str},y∈xs++[("nil":Str)]->y∈ys++[("nil":Str)]:=fun o=>(Aq.mp o).elim (fun z=>AD _ (h _ z)) fun z=>AG _ z;have c:∀{r:List Str},lz ⟨xs,hs⟩ r->lz ⟨ys,hs⟩ r:=fun⟨f,x,y,j,i,l,m⟩=>⟨f,x,y,j,i,h _ l,e m⟩
 cases d with
 | plain q =>
  cases q with
  | row r=>obtain⟨d,j,i⟩:=hd;exact⟨d,j,i.mono h⟩
  | call x cc vs =>
   obtain⟨j,i,g,l,m,n,p⟩:=hd;exact⟨j.imp id (h _),fun v s=>e (i v s),g,l,m,n,fun z=>h _ (p z)⟩
 | cond r a b=>exact c hd
 | loop r F P a=>exact⟨c hd.1,hd.2⟩
theorem a9g(xs:List Str)(i j:Nat):cutV (xs.map V.str) (some (i:Int)) (some (j:Int))=((xs.drop (min i xs.length)).take (min j xs.length-min i xs.length)).map V.str:=by
 unfold cutV;rw[HT.sIx_nat,HT.sIx_nat,Ad,FS,Iw]
theorem a97(ns:List Int)(i j:Nat):∃a:List Int,cutV (ns.map V.int) (some (i:Int)) (some (j:Int))=a.map V.int/\a.length<=j-i:=by
 refine⟨(ns.drop (min i ns.length)).take (min j ns.length-min i ns.length),?_,?_⟩
 . unfold cutV;rw[HT.sIx_nat,HT.sIx_nat,Ad,FS,Iw]
 . rw[AQ];lia
theorem ad8{a:List Int}(h:∀y∈ys,y∈a.map V.int):∃ks:List Int,ys=ks.map V.int:=by
 induction ys with
 | nil=>exact⟨[],rfl⟩
 | cons y ys ih =>
  obtain⟨ks,rfl⟩:=ih fun z hz=>h z (Al _ hz);obtain⟨k,_,rfl⟩:=AA.mp (h y Ag);exact⟨k::ks,rfl⟩
noncomputable def IsLs(H:Hp)(b:KA):Prop:=∃us,H b=some (.lst us)
noncomputable def OnZ(Z:KA->Prop)(H:Hp):Hp:=rm (fun b => ¬ Z b/\IsLs H b) H
noncomputable def PrcZ(K:Ab)(H:Hp)(Z:KA->Prop)(bs:List Nat)(t:KA)(p:Prc):Prop:=∃pt t1 t2 f1 p1 f2 p2 bd,PrcX K H bs t pt t1 t2 f1 p1 f2 p2 bd p/\(¬ Z f1/\¬ Z p1/\¬ Z f2/\¬ Z p2)/\ListY K (OnZ Z H) bs bd p.body
theorem a2m(h:OnZ Z H b=some o):H b=some o/\(Z b\/∀us,o≠.lst us):=by
 obtain⟨c,a⟩:=j4 h;refine⟨a,?_⟩;by_cases z:Z b
 . exact .inl z
 . exact .inr fun us e=>c ⟨z,us,by rw[a,e]⟩
theorem a75(h:H b=some o)(z:Z b\/∀us,o≠.lst us):OnZ Z H b=some o:=by
 unfold OnZ;rw[ib fun y=>z.elim y.1 fun w=>by obtain⟨us,y⟩:=y.2;rw[h] at y;exact w us (Au y)];exact h
theorem aal(e:Same H H')(hz:∀b,Z b->d b):Same (OnZ Z H) (OnZ d H'):=fun b o h=>by
 obtain⟨c,a⟩:=a2m h;exact a75 (e _ _ c) (a.imp (hz b) id)
theorem PrcZ.same(h:PrcZ K H Z bs t p)(e:Same H H')(hz:∀b,Z b->c b)(hn:∀b,IsLs H b->c b->Z b):PrcZ K H' c bs t p:=by
 obtain⟨pt,t1,t2,f1,p1,f2,p2,bd,x,⟨i,f,g,d⟩,hb⟩:=h;have ls:∀{a:KA} {F:List (List Str)},RowsAt K H a F->IsLs H a:=fun⟨as,h,_⟩=>⟨_,h⟩
 exact⟨pt,t1,t2,f1,p1,f2,p2,bd,⟨e _ _ x.tup,e _ _ x.pt,e _ _ x.t1,e _ _ x.t2,x.f1.same e,x.p1.same e,x.f2.same e,x.p2.same e,x.body.same e,x.okn,x.okr,x.okp,x.ok1,x.ok2,x.l1,x.l2⟩,⟨fun z=>i (hn _ (ls x.f1) z),fun z=>f (hn _ (ls x.p1) z),fun z=>g (hn _ (ls x.f2) z),fun z=>d (hn _ (ls x.p2) z)⟩,ListY.same hb (aal e hz)⟩
inductive spProg(K:Ab)(vs:List V)(H:Hp)(Q:VK)(E:XK):Prop
 | mk (a nl:KA)(ns:List Int)(st:Nat)(xs:List Str)(h0:vs=[.ref a,.int (st:Int),.ref nl])(h1:SqL K H a (ns.map V.int))(h2:H nl=some (.lst (xs.map V.str)))(h3:xs.length=6)(h4:xs.Nodup)(h5:∀x∈xs,i8 x=true)(h6:st<=100)(q:∀l ts pcs Z H',Same H H'->H' l=some (.lst ((ts:List KA).map V.ref))->KI (PrcZ K (rm (fun b=>b=l) H') Z (B 5)) ts pcs->PcsOk xs pcs->(∀b,Z b->IsLs H' b/\H b=none)->¬ Z l->Q (.ref l) H'):spProg K vs H Q E
theorem ado(C:Con K mg w)(F:GF K "_law_program" abh)(GC:FC K mg w 1 "_law_cell_at" (uc K))(GB:FC K mg w 3 "_law_body" (spBody K)):FC K mg w 4 "_law_program" (spProg K):=by
 refine F.ok C.gf 3 ["_law_script","_law_start","_law_names_here","_law_first","_law_many","_law_heads","_law_k","_law_program_here","_law_name","_law_params","_law_gives","_law_turn","_law_every","_law_cells","_law_body_here","_law_result"] fun H vs Q E hr h nd=>?_;obtain⟨a,nl,ns,st,xs,rfl,hS,aq,bQ,aO,T,b1,q⟩:=h;have bW:=l0 hr;have bB:=hr.mono (j:=1) (by lia);refine⟨_,gc (gu 3 nd (gr GC bB (gj (qv 0) (gj (qv 1) ad))))
  (gc (gu 4 nd (gp ir dn (gp ji (qv 3) dn)))
  (gc (gu 5 nd (i9 ad))
  (gc (jv AN rfl (kj rfl C.range (gj (qv 4) ad)) (jd 6 nd) (gi (ia (jr (K:=K) rfl AF Bg Bh jo (qv 5) (og (gq (gy K (qv 2) (qv 6)) (jb (gp ji (gp kg (qv 3) (gy K (i9 (i0 (i0 (i0 ad)))) (qv 6))) dn) (jk (nj ig (gp ji (gp kg (qv 3) (gy K (i9 (i0 (i0 (i0 ad)))) (qv 6))) dn) dn (ly _)) ad))) ad)))))
  (gc (gu 7 nd (i9 ad))
  (gc (jv AN rfl (kj rfl C.range (gj (qv 4) ad)) (jd 6 nd) (gc (pq (gy K (qv 5) (qv 6)) (a42 (jd 8 nd) (jd 9 nd) (jd 10 nd)))
  (gc (gu 11 nd (gp ir (gp ji (gp kg (qv 3) dn) dn) (qv 6)))
  (gc (gu 12 nd (gp ky (ja (rp (K:=K) rfl) (qv 2) (j8 (gp ji (qv 11) dn)) (j8 dn)) (ja (rp (K:=K) rfl) (qv 2) jp (j8 (gp ji (qv 11) dn)))))
  (gc (gu 13 nd (a96 (K:=K) rfl (ja (rp (K:=K) rfl) (qv 0) (j8 (gp ir (gp ir (qv 1) dn) (qv 6))) (j8 (gp ir (qv 1) dn))) jp (qv 4)))
  (gc (gu 14 nd (gr GB hr (gj (qv 13) (gq (ja (rp (K:=K) rfl) (qv 12) (j8 (qv 9)) jp) (gj (qv 12) (gj (qv 5) ad))))))
  (gc (gu 15 nd (gy K (i9 (ie (gq (gy K (qv 12) dn) ad))) (ii mu rfl C.int CU (gj (qv 10) ad))))
  (gi (ia (jr (K:=K) rfl AF Bg Bh jo (qv 7) (og (gj (qv 8) (gw (ii qh rfl C.tuple E7 (gq (ja (rp (K:=K) rfl) (qv 12) jp (j8 (qv 9))) ad)) (gj (qv 15) (og (my ad (my ad ad)) (og (my ad (my ad ad)) (gj (qv 14) ad)))))) ad)))))))))))
  (gi (gz (qv 7)))))))),?_⟩
 have ab:∀(x:Int) (m:Int),0<m->∃j:Nat,x % m=(j:Int)/\(j:Int)<m:=fun x m hm=>⟨(x % m).toNat,by have:=BD x (Ep hm);lia,by have:=BD x (Ep hm);have:=B7 x hm;lia⟩
 refine i5 fun A1 be _ _=>?_;refine⟨_,rfl,_,rfl,a,ns,st,rfl,hS,?_⟩;generalize ln ns st=J;refine be [rQ a,iQ (st:Int),rQ nl,iQ J,nQ,nQ,nQ,nQ,nQ,nQ,nQ,nQ,nQ,nQ,nQ,nQ] _ ?_;clear be;refine i5 fun A2 aK _ _=>?_;refine⟨_,rfl,_,_,rfl,rfl,(show (0:Int)<3 by decide),_,_,rfl,rfl,?_⟩;obtain⟨j0,bo,b2⟩:=ab J 3 (by decide);dsimp only[gt];rw[bo,show (1:Int)+(j0:Int)=((1+j0:Nat):Int) by lia];obtain⟨g,ap,bT,bZ⟩:∃m:Nat,1+j0=m/\1<=m/\m<=3:=⟨_,rfl,by lia,by lia⟩
 rw[ap];refine aK [rQ a,iQ (st:Int),rQ nl,iQ J,iQ (g:Int),nQ,nQ,nQ,nQ,nQ,nQ,nQ,nQ,nQ,nQ,nQ] _ ?_;clear aK;refine i5 fun A3 aV _ _=>?_;refine⟨AH _,fun hl aE=>?_⟩;obtain⟨H1,z0,s1,k1⟩:=gs aE (.lst []);dsimp only[gt];rw[z0];refine aV [rQ a,iQ (st:Int),rQ nl,iQ J,iQ (g:Int),rQ hl,nQ,nQ,nQ,nQ,nQ,nQ,nQ,nQ,nQ,nQ] _ ?_;clear aV;refine kq fun A4 aX _ _=>?_;refine⟨_,rfl,(g:Int),rfl,(by lia),(by lia),?_⟩;rw[Bv];refine lq (fun i σ G=>∃(ts:List KA) (hs:List (Str×Nat×Bool)) (z6:Option V),σ=[rQ a,iQ (st:Int),rQ nl,iQ J,iQ (g:Int),rQ hl,z6,nQ,nQ,nQ,nQ,nQ,nQ,nQ,nQ,nQ]/\Same H G/\G hl=some (.lst (ts.map V.ref))/\KI (fun t (h:Str×Nat×Bool)=>G t=some (.tup [.str h.1,.int (h.2.1:Int),.bl h.2.2])) ts hs/\hs.length=i/\∀(j:Nat) h,hs[j]?=some h->xs[j]?=some h.1/\h.2.1<=2) ⟨[],[],none,rfl,s1,k1,.nil,rfl,fun j h z=>by cases z⟩ ?_ ?_
 . rintro i σ G hi ⟨ts,hs,z6,rfl,eG,kG,pr,a0,hok⟩;rw[Fk];have bM:i<3:=by lia
   obtain⟨y,R⟩:∃y,xs[i]?=some y:=⟨_,Af (by lia)⟩
   have bx:atI (xs.map V.str) (i:Int)=some (.str y):=jg (by rw[Am,R];rfl);have pick:∀(x0 x1 x2:Int),∃v,atI [V.int x0,V.int x1,V.int x2] (i:Int)=some (.int v)/\(v=x0\/v=x1\/v=x2):=fun x0 x1 x2=>by
    match i,bM with
    | 0,_=>exact⟨x0,rfl,.inl rfl⟩
    | 1,_=>exact⟨x1,rfl,.inr (.inl rfl)⟩
    | 2,_=>exact⟨x2,rfl,.inr (.inr rfl)⟩
   obtain⟨v1,bp,a8⟩:=pick 3 9 27;obtain⟨v2,bA,bc⟩:=pick 81 162 324;refine⟨_,rfl,.inl ⟨rfl,_,SqL.of kG⟩,_,rfl,_,rfl,nl,_,_,_,rfl,rfl,SqL.of (eG _ _ aq),bx,_,rfl,(szLn 3),fun u hu=>?_⟩;obtain⟨G2,z3,s2,k2⟩:=gs hu (.lst [V.int 3,V.int 9,V.int 27]);rw[z3];refine⟨_,rfl,u,_,_,_,rfl,rfl,SqL.of k2,bp,_,_,rfl,rfl,(show CDiv _ v1 from by rcases a8 with rfl|rfl|rfl<;>exact⟨by decide,by decide⟩),_,_,rfl,rfl,(show (0:Int)<3 by decide),_,rfl,(szLn 3),fun u' bC=>?_⟩;obtain⟨G3,z4,s3,k3⟩:=gs bC (.lst [V.int 81,V.int 162,V.int 324]);rw[z4];refine⟨_,rfl,u',_,_,_,rfl,rfl,SqL.of k3,bA,_,_,rfl,rfl,(show CDiv _ v2 from by rcases bc with rfl|rfl|rfl<;>exact⟨by decide,by decide⟩),_,_,rfl,rfl,(show (0:Int)<2 by decide),rfl,(szLn 3),fun t ht=>?_⟩;obtain⟨np,bv,bR⟩:=ab (J / v1) 3 (by decide);dsimp only;rw[bv];generalize decide (V.int (J / v2 % 2)=V.int 1)=gv;obtain⟨G4,z5,s4,k4⟩:=gs ht (.tup [.str y,.int (np:Int),.bl gv]);rw[z5];have e4:=(s2.trans s3).trans s4;have tl:=Ay pr;refine⟨hl,_,_,rfl,rfl,e4 _ _ kG,j9 (by rw[Ad];lia),ts++[t],hs++[(y,np,gv)],_,rfl,fun b o z=>?_,?_,?_,by rw[Ai,a0];rfl,fun j h hj=>?_⟩
   . rw[f6 (gh z aE)];exact e4 _ _ (eG _ _ z)
   . rw[g8,Ax];rfl
   . have keep:∀{b:KA} {vs:List V},G4 b=some (.tup vs)->(upd G4 hl (.lst (ts.map V.ref++[.ref t]))) b=some (.tup vs):=fun {b vs} h=>by rw[f6 (fun z=>by rw[z,e4 _ _ kG] at h;cases h)];exact h
     exact Paired.snocP (Paired.mapP pr fun _ _ z=>keep (e4 _ _ z)) (keep k4)
   . rcases JX j hs.length with z|z
     . rw[FZ z] at hj;exact hok j h hj
     . rw[FL z] at hj;have e0:j-hs.length=0:=by
        rcases IW (j-hs.length) with w|w
        . exact w
        . rw[Bx (show[(y,np,gv)].length<=_ from w)] at hj;cases hj
       rw[e0] at hj;cases hj;have:j=i:=by lia
       rw[this];exact⟨R,by show np<=2;lia⟩
 rintro σ H2 ⟨a3,hs,z6,rfl,e2,bb,hpr,ac,hok⟩;refine aX _ _ ?_;clear aX s1 k1;have HA:HeadsAt H2 hl hs:=⟨a3,bb,hpr⟩
 have b0:=Ay hpr;refine i5 fun A5 ba _ _=>?_;refine⟨AH _,fun l aH=>?_⟩;obtain⟨H3,z7,s3,k3⟩:=gs aH (.lst []);dsimp only[gt];rw[z7];refine ba [rQ a,iQ (st:Int),rQ nl,iQ J,iQ (g:Int),rQ hl,z6,rQ l,nQ,nQ,nQ,nQ,nQ,nQ,nQ,nQ] _ ?_;clear ba;refine kq fun A6 bE _ _=>?_;refine⟨_,rfl,(g:Int),rfl,(by lia),(by lia),?_⟩;rw[Bv];refine lq (fun i σ G=>∃(Z:KA->Prop) (ts:List KA) (pcs:List Prc) (z6 z8 z9 ar aj ae r N D:Option V),σ=[rQ a,iQ (st:Int),rQ nl,iQ J,iQ (g:Int),rQ hl,z6,rQ l,z8,z9,ar,aj,ae,r,N,D]/\Same H2 G/\G l=some (.lst (ts.map V.ref))/\KI (PrcZ K (rm (fun b=>b=l) G) Z (B 5)) ts pcs/\(∀b,Z b->IsLs G b/\H2 b=none/\b≠l)/\pcs.length=i/\pcs.map rq=hs.take i/\∀p∈pcs,PcOk xs hs p) ⟨fun _=>False,[],[],z6,none,none,none,none,none,none,none,none,rfl,s3,k3,.nil,fun _ z=>z.elim,rfl,by rw[Da];rfl,fun p z=>by cases z⟩ ?_ ?_
 . rintro i σ G hi ⟨Z,ts,pcs,z6,z8,z9,ar,aj,ae,r,N,D,rfl,eG,kl,pr,hZ,aS,aa,av⟩;rw[Fk];dsimp only[gt];have az:=e2.trans eG;obtain⟨hd,aA⟩:∃h,hs[i]?=some h:=⟨_,Af (by lia)⟩
   obtain⟨ht,a6⟩:∃h,a3[i]?=some h:=⟨_,Af (by lia)⟩
   have bJ:=Paired.at2 hpr a6 aA;obtain⟨bm,bX⟩:=hok i hd aA;have aC:hd.1∈xs:=AE bm;refine i5 fun B1 aT _ _=>?_;refine⟨_,rfl,_,rfl,hl,_,_,_,rfl,rfl,SqL.of (eG _ _ bb),jg (by rw[Am,a6];rfl),ht,_,rfl,SqT.of (eG _ _ bJ),rfl,_,_,rfl,_,_,rfl,_,_,rfl,rfl,?_⟩;refine aT [rQ a,iQ (st:Int),rQ nl,iQ J,iQ (g:Int),rQ hl,iQ (i:Int),rQ l,some (.str hd.1),iQ (hd.2.1:Int),some (.bl hd.2.2),aj,ae,r,N,D] _ ?_;clear aT;refine i5 fun B2 aG _ _=>?_;refine⟨_,rfl,_,_,rfl,rfl,(show CDiv _ 648 from⟨by decide,by decide⟩),_,_,rfl,rfl,(show (0:Int)<6 by decide),_,rfl,_,_,rfl,rfl,?_⟩;dsimp only[gt];generalize J / 648 % 6+(i:Int)=tn;refine aG [rQ a,iQ (st:Int),rQ nl,iQ J,iQ (g:Int),rQ hl,iQ (i:Int),rQ l,some (.str hd.1),iQ (hd.2.1:Int),some (.bl hd.2.2),iQ tn,ae,r,N,D] _ ?_;clear aG;obtain⟨t,a9,bS⟩:=ab tn 6 (by decide);have aR:t<6:=by lia
   refine i5 fun B3 aZ _ _=>?_;refine⟨_,rfl,_,rfl,_,_,rfl,rfl,(show (0:Int)<6 by decide),?_⟩;refine⟨(t:Int),congrArg V.int a9,((6:Nat):Int),rfl,nl,_,rfl,SqL.of (az _ _ aq),fun p1 bt=>?_⟩;have c1:cutV (xs.map V.str) (some (t:Int)) (some ((6:Nat):Int))=(xs.drop t).map V.str:=by
    rw[a9g,bQ,CS (BG aR),Gx,Bi (by rw[Bb];lia)]
   rw[c1];obtain⟨G4,y0,s4,k4⟩:=gs bt (.lst ((xs.drop t).map V.str));rw[y0];refine⟨_,rfl,_,rfl,_,_,rfl,rfl,(show (0:Int)<6 by decide),?_⟩;refine⟨(t:Int),congrArg V.int a9,nl,_,rfl,SqL.of (s4 _ _ (az _ _ aq)),fun p2 bG=>?_⟩;rw[a1e xs t (by lia)];obtain⟨G5,y1,s5,k5⟩:=gs bG (.lst ((xs.take t).map V.str));rw[y1];refine⟨p1,p2,_,_,rfl,rfl,s5 _ _ k4,k5,io (by rw[Ad,Ad,Bb,AQ];lia),fun ev bP=>?_⟩;rw[<- Ax];generalize hys:xs.drop t++xs.take t=ys;have af:∀y∈ys,y∈xs:=fun y R=>by
    rw[<- hys] at R;exact (Aq.mp R).elim C0 BS
   have bh:ys.length=6:=by rw[<- hys,Ai,Bb,AQ];lia
   have bi:ys.Nodup:=by
    rw[<- hys];have h:=aO;rw[<- Ib t xs] at h;exact (List.perm_append_comm.nodup_iff).mp h
   obtain⟨G6,y4,s6,k6⟩:=gs bP (.lst (ys.map V.str));dsimp only[gt];rw[y4];have e6:=(s4.trans s5).trans s6;refine aZ [rQ a,iQ (st:Int),rQ nl,iQ J,iQ (g:Int),rQ hl,iQ (i:Int),rQ l,some (.str hd.1),iQ (hd.2.1:Int),some (.bl hd.2.2),iQ tn,rQ ev,r,N,D] _ ?_;clear aZ s4 s5 s6 k4 k5 c1;refine i5 fun B4 aN _ _=>?_;have bq:(st:Int)+1+(i:Int)=((st+1+i:Nat):Int):=by lia
   have bu:(st:Int)+27=((st+27:Nat):Int):=by lia
   refine⟨_,rfl,_,rfl,_,_,rfl,rfl,_,rfl,_,_,rfl,rfl,?_⟩;refine⟨((st+1+i:Nat):Int),congrArg V.int bq,_,rfl,_,_,rfl,rfl,((st+27:Nat):Int),congrArg V.int bu,a,_,rfl,(az.trans e6).seq hS,fun p3 bz=>?_⟩;obtain⟨ms,br,bV⟩:=a97 ns (st+1+i) (st+27);rw[br];obtain⟨G7,y6,s7,k7⟩:=gs bz (.lst (ms.map V.int));rw[y6];refine⟨_,rfl,p3,_,_,rfl,rfl,(by lia),SqL.of k7,fun ca bU bL bw bj=>?_⟩;obtain⟨ks,rfl⟩:=ad8 bw;obtain⟨G8,y7,s8,k8⟩:=gs bL (.lst (ks.map V.int));dsimp only[gt];rw[y7];rw[Ad,Ad] at bj;have e8:=e6.trans (s7.trans s8);refine aN [rQ a,iQ (st:Int),rQ nl,iQ J,iQ (g:Int),rQ hl,iQ (i:Int),rQ l,some (.str hd.1),iQ (hd.2.1:Int),some (.bl hd.2.2),iQ tn,rQ ev,rQ ca,N,D] _ ?_;clear aN;have W:=(s7.trans s8) _ _ k6;refine i5 fun B5 aD _ _=>?_;refine⟨_,rfl,_,rfl,_,rfl,(hd.2.1:Int),rfl,ev,_,rfl,SqL.of W,fun ow bH=>?_⟩;rw[a2n,<- Iw];obtain⟨G9,y8,s9,k9⟩:=gs bH (.lst ((ys.drop hd.2.1).map V.str));rw[y8];have e9:=e8.trans s9;have aP:hs≠[]:=fun z=>by rw[z] at ac;simp at ac;lia
   refine⟨_,rfl,_,rfl,.mk ca ow ev hl ks (ys.drop hd.2.1) ⟨ys,hs⟩ rfl (s9 _ _ k8) (by lia) k9 (fun z=>by have:=congrArg Ht z;rw[Bb,Hm] at this;lia) (fun y R=>C0 R) (by rw[Bb];lia) (s9 _ _ W) bh (fun y R=>T _ (af y R)) (HA.same (eG.trans e9)) aP (by show hs.length<=6;lia) (fun h hh=>?_) fun bd ds ag aw hL hg=>?_⟩
   . obtain⟨j,hj⟩:=DU hh;obtain⟨h1,h2⟩:=hok j h hj;exact⟨by lia,T _ (AE h1)⟩
   dsimp only[gt];refine aD [rQ a,iQ (st:Int),rQ nl,iQ J,iQ (g:Int),rQ hl,iQ (i:Int),rQ l,some (.str hd.1),iQ (hd.2.1:Int),some (.bl hd.2.2),iQ tn,rQ ev,rQ ca,rQ bd,D] _ ?_;clear aD;have ai:=aw _ _ (s9 _ _ W);refine i5 fun B6 aU _ _=>?_;obtain⟨y5,aM⟩:∃y,ys[5]?=some y:=⟨_,Af (by lia)⟩
   refine⟨_,rfl,ev,_,5,.str y5,rfl,rfl,SqL.of ai,jg (j:=5) (by rw[Am,aM];rfl),(szLn 2),fun u hu=>?_⟩;obtain⟨ax,y9,S,aQ⟩:=gs hu (.lst [V.str "",V.str y5]);rw[y9];have aL:y5∈xs:=af _ (AE aM);have bN:y5≠"" := fun z=>by have:=T _ aL;rw[z] at this;exact absurd this (by decide)
   obtain⟨O,bn,ao,bg⟩:∃O:Str,atI [V.str "",V.str y5] (if hd.2.2=true then 1 else 0)=some (.str O)/\(O="" \/ O∈xs)/\decide (O≠"")=hd.2.2:=by
    cases hd.2.2 with
    | true=>exact⟨y5,rfl,.inr aL,decide_eq_true bN⟩
    | false=>exact⟨"",rfl,.inl rfl,decide_eq_false fun z=>z rfl⟩
   refine⟨_,rfl,_,rfl,u,_,_,_,rfl,rfl,SqL.of aQ,bn,?_⟩;dsimp only[gt];refine aU [rQ a,iQ (st:Int),rQ nl,iQ J,iQ (g:Int),rQ hl,iQ (i:Int),rQ l,some (.str hd.1),iQ (hd.2.1:Int),some (.bl hd.2.2),iQ tn,rQ ev,rQ ca,rQ bd,some (.str O)] _ ?_;clear aU;have ay:=(e9.trans aw).trans S;refine⟨_,rfl,.inl ⟨rfl,_,SqL.of (ay _ _ kl)⟩,_,rfl,_,rfl,_,rfl,(hd.2.1:Int),rfl,ev,_,rfl,SqL.of (S _ _ ai),fun p4 bI=>?_⟩;rw[a1e ys hd.2.1 (by lia)];obtain⟨aI,x8,aB,aW⟩:=gs bI (.lst ((ys.take hd.2.1).map V.str));rw[x8];refine⟨p4,_,rfl,.inl ⟨SqL.of aW,fun pa a2=>?_⟩⟩;obtain⟨al,x9,aY,a1⟩:=gs a2 (.tup ((ys.take hd.2.1).map V.str));rw[x9];refine⟨_,rfl,(szLn 0),fun f1 au=>⟨(szLn 0),fun q1 hq1=>⟨(szLn 2),fun t1 am=>⟨(szLn 0),fun f2 U=>⟨(szLn 0),fun q2 M=>⟨(szLn 2),fun t2 L=>⟨_,rfl,(szLn 6),fun tt s=>?_⟩⟩⟩⟩⟩⟩⟩;have Y:=gk au (.lst []);have x1:(upd al f1 (.lst [])) f1=some (.lst []):=g8;generalize upd al f1 (.lst [])=J1 at Y x1 hq1 am U M L s |-;have w2:=gk hq1 (.lst []);have x2:(upd J1 q1 (.lst [])) q1=some (.lst []):=g8;generalize upd J1 q1 (.lst [])=J2 at w2 x2 am U M L s |-;have w3:=gk am (.tup [.ref f1,.ref q1]);have x3:(upd J2 t1 (.tup [.ref f1,.ref q1])) t1=some (.tup [.ref f1,.ref q1]):=g8;generalize upd J2 t1 (.tup [.ref f1,.ref q1])=J3 at w3 x3 U M L s |-;have w4:=gk U (.lst []);have x4:(upd J3 f2 (.lst [])) f2=some (.lst []):=g8;generalize upd J3 f2 (.lst [])=J4 at w4 x4 M L s |-;have w5:=gk M (.lst []);have x5:(upd J4 q2 (.lst [])) q2=some (.lst []):=g8;generalize upd J4 q2 (.lst [])=J5 at w5 x5 L s |-;have w6:=gk L (.tup [.ref f2,.ref q2]);have x6:(upd J5 t2 (.tup [.ref f2,.ref q2])) t2=some (.tup [.ref f2,.ref q2]):=g8;generalize upd J5 t2 (.tup [.ref f2,.ref q2])=J6 at w6 x6 s |-;obtain⟨J7,w0,w7,x7⟩:=gs s (.tup [.str hd.1,.ref pa,.str O,.ref t1,.ref t2,.ref bd]);dsimp only;rw[w0];have aF:=w6.trans w7;have aJ:=w5.trans aF;have a5:=w4.trans aJ;have a7:=w3.trans a5;have bf:=w2.trans a7;have ak:=Y.trans bf;have r:=aB.trans aY;have eJ:=(ay.trans r).trans ak;have I:∀{b:KA} {o:HO},J7 b=some o->G b=none->(rm (fun c=>c=l) J7) b=some o:=fun {b o} h hn=>by
    rw[ib (fun z=>by rw[z,kl] at hn;cases hn)];exact h
   have an:∀{b:KA},ax b=none->G b=none:=fun h=>ay.free h;have n:∀{b:KA},al b=none->G b=none:=fun h=>an (r.free h);have bF:ListX K (rm (fun c=>c=l) J7) (B 5) bd ds:=by
    refine ListX.same (ListY.x hL) fun b o z=>?_;obtain⟨z1,z2⟩:=j4 z;rw[ib (fun y=>z1 ⟨_,by rw[y];exact e9 _ _ kl⟩)];exact ((S.trans r).trans ak) _ _ z2
   have ah:=(S.trans r).trans ak;have a4:IsLs G9 l:=⟨_,e9 _ _ kl⟩
   have nZ:∀{b:KA},al b=none->¬ (Z b\/(IsLs ag b/\¬ IsLs G9 b)):=fun {b} h z=>by
    rcases z with z|z
    . obtain⟨us,y⟩:=(hZ b z).1;rw[n h] at y;cases y
    . obtain⟨us,y⟩:=z.1;rw[(S.trans r) _ _ y] at h;cases h
   have bO:PrcZ K (rm (fun c=>c=l) J7) (fun b=>Z b\/(IsLs ag b/\¬ IsLs G9 b)) (B 5) tt ⟨hd.1,O,ys.take hd.2.1,[],[],[],[],ds⟩:=by
    refine⟨pa,t1,t2,f1,q1,f2,q2,bd,⟨I x7 (n ((((((Y.trans w2).trans w3).trans w4).trans w5).trans w6).free s)),I (ak _ _ a1) (an (aB.free a2)),I (a5 _ _ x3) (n ((Y.trans w2).free am)),I (w7 _ _ x6) (n (((((Y.trans w2).trans w3).trans w4).trans w5).free L)),⟨[],I (bf _ _ x1) (n au),.nil⟩,⟨[],I (a7 _ _ x2) (n (Y.free hq1)),.nil⟩,⟨[],I (aJ _ _ x4) (n (((Y.trans w2).trans w3).free U)),.nil⟩,⟨[],I (aF _ _ x5) (n ((((Y.trans w2).trans w3).trans w4).free M)),.nil⟩,bF,qp (T _ aC),?_,fun y R=>qp (T _ (af _ (BS R))),⟨fun _ h=>(by cases h),fun _ h=>(by cases h)⟩,⟨fun _ h=>(by cases h),fun _ h=>(by cases h)⟩,⟨AH _,AH _⟩,⟨AH _,AH _⟩⟩,⟨nZ au,nZ (Y.free hq1),nZ (((Y.trans w2).trans w3).free U),nZ ((((Y.trans w2).trans w3).trans w4).free M)⟩,ListY.same hL fun b o z=>?_⟩
    . rcases ao with z|z
      . show Ok O;rw[z];exact jw _ (by simp)
      . exact qp (T _ z)
    . obtain⟨z1,z2⟩:=j4 z;have nb:¬ b=l:=fun y=>z1 (by rw[y];exact a4);refine a75 (by rw[ib (X:=fun c=>c=l) nb];exact ah _ _ z2) ?_;by_cases y:∃us,o=.lst us
      . obtain⟨us,rfl⟩:=y;exact .inl (.inr ⟨⟨us,z2⟩,z1⟩)
      . exact .inr fun us e=>y ⟨us,e⟩
   have tl:=Ay pr;refine⟨l,_,_,rfl,rfl,eJ _ _ kl,j9 (by rw[Ad];lia),(fun b=>Z b\/(IsLs ag b/\¬ IsLs G9 b)),ts++[tt],pcs++[⟨hd.1,O,ys.take hd.2.1,[],[],[],[],ds⟩],_,_,_,_,_,_,_,_,_,rfl,fun b o z=>?_,by rw[g8,Ax];rfl,?_,fun b z=>?_,by rw[Ai,aS];rfl,?_,fun p hp=>?_⟩
   . rw[f6 (gh z aH)];exact eJ _ _ (eG _ _ z)
   . rw[rk (X:=fun b=>b=l) rfl];refine Paired.snocP (Paired.mapP pr fun _ _ z=>z.same (ip eJ) (fun _ z=>.inl z) fun b y z=>?_) bO;rcases z with z|z
     . exact z
     . obtain⟨us,y⟩:=y;exact absurd ⟨us,e9 _ _ (rm_back _ _ y)⟩ z.2
   . have nb:b≠l:=by
      rcases z with z|z
      . exact (hZ b z).2.2
      . exact fun y=>z.2 (by rw[y];exact a4)
     refine⟨?_,?_,nb⟩
     . rcases z with z|z
       . obtain⟨us,y⟩:=(hZ b z).1;exact⟨us,by rw[f6 nb];exact eJ _ _ y⟩
       . obtain⟨us,y⟩:=z.1;exact⟨us,by rw[f6 nb];exact ah _ _ y⟩
     . rcases z with z|z
       . exact (hZ b z).2.1
       . cases y:H2 b with
         | none=>rfl
         | some o =>
          obtain⟨us,y2⟩:=z.1;have y3:=(eG.trans e9) _ _ y;rw[aw _ _ y3] at y2;exact absurd ⟨us,by rw[y3];exact y2⟩ z.2
   . rw[Ax,aa,JK,aA];show _++[rq _]=_++[hd]
     congr 2
     show (hd.1,(ys.take hd.2.1).length,decide (O≠""))=hd;rw[bg,AQ,CS (by lia)]
   . rcases Aq.mp hp with z|z
     . exact av p z
     . rw[Ap.mp z];refine⟨by show (ys.take hd.2.1).length<=2;rw[AQ];lia,bi.sublist (EB _ _),fun y R=>af _ (BS R),aC,ao,⟨rfl,rfl,rfl,rfl⟩,⟨fun bs=>Aw (hg.len bs) (by lia),fun bs d bD=>(hg.ok bs d bD).mono af⟩⟩
 rintro σ G ⟨Z,ts,pcs,z6,z8,z9,ar,aj,ae,r,N,D,rfl,eG,kl,pr,hZ,aS,aa,av⟩;refine bE _ _ ⟨_,rfl,?_⟩;rw[<- ac,BK] at aa;refine q l ts pcs Z G (e2.trans eG) kl pr ⟨by rw[aa];exact av,?_,by lia,by lia⟩ (fun b z=>⟨(hZ b z).1,e2.free (hZ b z).2.1⟩) (fun z=>(hZ _ z).2.2 rfl);have e:pcs.map (·.name)=xs.take pcs.length:=by
  apply Jg;intro j;have h1:(pcs.map (·.name))[j]?=((pcs.map rq).map (·.1))[j]?:=by rw[BA];rfl
  rw[h1,aa,Am,List.getElem?_take];by_cases z:j<pcs.length
  . rw[if_pos z];obtain⟨h,hh⟩:∃h,hs[j]?=some h:=⟨_,Af (by lia)⟩
    rw[hh,(hok j h hh).1];rfl
  . rw[if_neg z,Bx (by lia)];rfl
 rw[e];exact aO.sublist (EB _ _)
end K55
namespace L2
open PyProof.Rows PySem.SeqAt
noncomputable def aei:R2:=fun x y H Q=>∃a b xs,x=.ref a/\y=.ref b/\H a=some (.lst xs)/\H b=some (.lst [])/\Q (.bl (decide (xs≠[]))) H
theorem aaf(E:X.A.units+1<cLine):OpR X (KL .NotEq) aei:=by
 intro f s σ H x y v u Q I p r h;obtain⟨a,b,xs,rfl,rfl,ha,hb,q⟩:=h;cases p;cases r;obtain⟨_,us,n1,C,l1,o⟩:=I.lstM ha;obtain⟨_,vs,n2,D,l2,n⟩:=I.lstM hb;have m:s.heap.IsList a us.toArray:=⟨_,o,rfl,n1,rfl⟩
 have g:s.heap.IsList b vs.toArray:=⟨_,n,rfl,n2,rfl⟩
 have i:vs.length=0:=l2.symm;by_cases c:xs=[]
 . subst c;have d:us.length=0:=l1.symm;refine RcNeAt.lists (e:=fun _=>true) m g (by rw[Ao,Ao,d,i]) (by lia) (fun j l _=>by rw[Ao,d] at l;exact absurd l (JH _)) X.prog X.w _ _ ?_;rw[Ao,d];exact⟨.bl false,H,I,rfl,q⟩
 . refine RcNeAt.lists_lengths m g (by
    have:xs.length≠0:=fun z=>c (B8 z);rw[Ao,Ao,<- l1,i];simpa using c) (by lia) X.prog X.w _ _ ?_
   refine⟨.bl true,H,I,rfl,?_⟩;rw[decide_eq_true c] at q;exact q
theorem afx{K:Ab}(h:X.K=K):SlR X (a16 K):=by subst h;exact oj
theorem afh{K:Ab}(h:X.K=K):OpR X (Ki .Add) (a6h K):=by subst h;exact a22
end L2
namespace K55
open L2 Mir
abbrev abf:KN:=top 42
noncomputable def wo(y:Str):Bool:=(!decide (V.str y=V.str "")) && (!decide (V.str y=V.str "nil"))
theorem a6m:wo y=true↔y≠"" /\ y≠"nil" := by grind [wo]
noncomputable def qk(p:Prc):List Str:=p.ps++[p.res]++(allL (B 5) p.body).flatMap wrd
theorem vq(d:Dd):wrd (.plain (.row (rowD d)))=oi d:=by
 cases d with
 | set x e=>show jc "set" [x,e]=_;unfold jc;rfl
 | read x y f=>show jc "read" [x,y,f]=_;unfold jc;rfl
 | write y f e=>show jc "write" [y,f,e]=_;unfold jc;rfl
 | new x e f=>show jc "new" [x,e,f]=_;unfold jc;rfl
 | free y=>show jc "free" [y]=_;unfold jc;rfl
abbrev Wt:=KA×Deed×Nat
noncomputable def wtD(w:Wt):List Deed:=allD (allL (B w.2.2)) w.2.1
noncomputable def wtN(ws:List Wt):Nat:=(ws.map fun w=>(wtD w).length).sum
structure WtOk(K:Ab)(X:Hp)(e:Ev)(w:Wt):Prop where
 x:DeedX K X (ListX K X (B w.2.2)) w.1 w.2.1
 g:∀d∈wtD w,DG e d
theorem xg(h:ListX K X (B m) l ds)(b:∀d∈allL (B m) ds,DG e d):∃ws:List Wt,X l=some (.lst (ws.map fun w=>V.ref w.1))/\(∀w∈ws,WtOk K X e w)/\ws.flatMap wtD=allL (B m) ds:=by
 cases m with
 | zero=>exact h.elim
 | succ m =>
  obtain⟨ts,c,a,g⟩:=h;clear g;refine⟨(ts.zip ds).map fun x=>(x.1,x.2,m),?_,?_,?_⟩
  . rw[c,BA]
    congr 2
    clear c b;induction a with
    | nil=>rfl
    | cons _ _ ih=>rw[As,CN,As,ih];rfl
  . intro w hw;obtain⟨⟨t,d⟩,hz,rfl⟩:=AA.mp hw;obtain⟨i,hi⟩:=DU hz;rw[Ed] at hi;have hd:=AE hi.2;exact⟨Paired.at2 a hi.1 hi.2,fun j f=>b j (Bu.mpr ⟨d,hd,f⟩)⟩
  . show _=ds.flatMap (allD (allL (B m)));clear c b;induction a with
    | nil=>rfl
    | cons _ _ ih=>rw[CN,As,C8,C8,ih];rfl
theorem qz(ws:List Wt):wtN ws=(ws.flatMap wtD).length:=by simp_all [wtN,wtD]
theorem a00(ws:List Wt):ws.length<=wtN ws:=by
 unfold wtN;induction ws with
 | nil=>exact Aj _
 | cons w ws ih =>
  rw[As,Cr,AB];have:1<=(wtD w).length:=by show 1<=(_::_).length;rw[AB];lia
  lia
inductive spTold(K:Ab)(vs:List V)(H:Hp)(Q:VK)(E:XK):Prop
 | mk (t:KA)(pc:Prc)(xs:List Str)(hs:List (Str×Nat×Bool))(h0:vs=[.ref t])(h1:PrcAt K H (B 5) t pc)(h2:PcOk xs hs pc)(h3:xs.length=6)(h4:∀h∈hs,h.2.1<=8)(q:∀zl zs H',Same H H'->H zl=none->H' zl=some (.lst ((zs:List Str).map V.str))->zs.Nodup->(∀y,y∈zs↔y≠"" /\ y≠"nil" /\ y∈qk pc)->Q (.ref zl) H'):spTold K vs H Q E
theorem adr(C:Con K mg w)(F:GF K "_law_told_names" abf)(GS:FC K mg w 1 "_law_said_by" (spSaidBy K)):FC K mg w 2 "_law_told_names" (spTold K):=by
 refine F.ok C.gf 1 ["_law_procedure","_law_found","_law_name","_law_waiting","_law_deed","_law_some"] @fun P base f bi A outer s0 H vs Q E hr h nd=>?_;obtain⟨t,pc,xs,hs,rfl,a7,hok,be,a8,q⟩:=h;have aF:=l0 hr;refine⟨_,gc (gu 1 nd a03)
  (gc (jv AN rfl (a40 (K:=K) rfl (gp (afh (K:=K) rfl) (gx K (qv 0) dn) (j5 (gq (gx K (qv 0) dn) ad)))) (jd 2 nd) (gi (km aF (qv 1) (qv 2) xb)))
  (gc (gu 3 nd (ii jl rfl C.list Bt (gq (gx K (qv 0) dn) ad)))
  (gc (ou AN (i6 (aaf aF) (qv 3) (i9 ad)) (gc (gu 4 nd (o8 AF EX EY a1h (qv 3)))
  (gc (ij (QW.qt (a4p (i6 ig (gx K (qv 4) dn) i7) (a1x (i6 ig (gx K (qv 4) dn) i7)))) (gc (gu 5 nd (ii jl rfl C.list Bt (gq (ja (afx (K:=K) rfl) (gx K (qv 4) dn) (j8 dn) jp) ad)))
  (gc (ia (jr (K:=K) rfl AF Cw Cz qg (qv 3) (gq (gx K (qv 4) (jx jm dn)) ad)))
  (gi (ij (i6 ig (gx K (qv 4) dn) i7) (gi (ia (jr (K:=K) rfl AF Cw Cz qg (qv 3) (gq (gx K (qv 4) dn) ad)))) iq)))) (gi (ij (i6 ig (gx K (qv 4) dn) i7) (gi (gu 5 nd (gp ky (i9 (gq (gx K (qv 4) dn) ad)) (ii jl rfl C.list Bt (gq (gx K (qv 4) dn) ad))))) (gi (gu 5 nd (ii jl rfl C.list Bt (gw (gr GS hr (gj (qv 4) ad)) ad)))))))
  (gi (jv AN rfl (oq (K:=K) rfl (qv 5)) (jd 2 nd) (gi (km aF (qv 1) (qv 2) xb)))))))
  (gi (gz (lx (a5c (K:=K) rfl) rfl C.sorted Eo (jk (ac9 (qw (aay (qv 1)) (fun _ _ _ _=>(a02 (QW.qt (q3 (i6 uz (qv 0) i7) (ny (i6 uz (qv 0) i7)))))) (fun _ _ _ _=>(qv 0)))) ad))))))),?_⟩
 obtain⟨pt,t1,t2,f1,p1,f2,p2,bd,px⟩:=id a7;have ah:H t=some (.tup [.str pc.name,.ref pt,.str pc.res,.ref t1,.ref t2,.ref bd]):=px.tup;have aX:H pt=some (.tup (pc.ps.map V.str)):=px.pt;have a0:=hok.pl;have wx:∀{d:Deed},DG ⟨xs,hs⟩ d->∀y∈wrd d,y∈xs++[("nil":Str),""]:=fun {d} hd y O=>by
  have up:∀{y:Str},y∈xs++[("nil":Str)]->y∈xs++[("nil":Str),""]:=fun h=>by
   rcases Aq.mp h with z|z
   . exact AD _ z
   . rw[Ap.mp z];simp
  have c:∀{r:List Str},lz ⟨xs,hs⟩ r->y∈r.drop 1->y∈xs++[("nil":Str),""]:=fun h O=>by
   obtain⟨f,x,z,rfl,_,W,h2⟩:=h;simp only[List.drop_succ_cons,De,Ah,Av,or_false] at O;rcases O with rfl|rfl
   . exact AD _ W
   . exact up h2
  cases d with
  | plain q =>
   cases q with
   | row r =>
    obtain⟨d,rfl,N⟩:=hd;rw[vq] at O;cases d with
    | set x e=>simp only[oi,Ah,Av,or_false] at O;rcases O with rfl|rfl;exact AD _ N.1;exact up N.2
    | read x z f=>simp only[oi,Ah,Av,or_false] at O;rcases O with rfl|rfl;exact AD _ N.1;exact AD _ N.2.1
    | write z f e=>simp only[oi,Ah,Av,or_false] at O;rcases O with rfl|rfl;exact AD _ N.1;exact up N.2.2
    | new x e f=>simp only[oi,Ah,Av,or_false] at O;rcases O with rfl|rfl|rfl;exact AD _ N.1;exact up N.2.1;exact up N.2.2
    | free z=>simp only[oi,Ah,Av,or_false] at O;rw[O];exact AD _ N
   | call x cc vs =>
    obtain⟨W,h2,_⟩:=hd;rcases Ah.mp O with rfl|z
    . rcases W with z|z
      . rw[z];simp
      . exact AD _ z
    . exact up (h2 y z)
  | cond r a b=>exact c hd O
  | loop r FF PP a =>
   obtain⟨W,rfl,rfl⟩:=hd;exact c W (by rcases Aq.mp O with z|z;exact z;cases z)
 have ay:∀{S:List Str},S.Nodup->(∀y∈S,y∈xs++[("nil":Str),""])->(bK S).length<KF:=fun W h2=>by
  have:=AV W h2;rw[Ai] at this;exact j9 (by unfold bK;rw[Ad];simp at this;lia)
 refine i5 fun D1 aI _ _=>?_;intro J aq;obtain⟨H1,z0,s1,k1⟩:=gs aq (.dK []);change H1 J=some (.dK (bK [])) at k1;rw[z0];refine aI [rQ t,rQ J,nQ,nQ,nQ,nQ] _ ?_;clear aI;refine kq fun D2 aL _ _=>?_;refine⟨_,rfl,t,_,1,_,rfl,rfl,SqT.of (s1 _ _ ah),rfl,_,rfl,t,_,2,_,rfl,rfl,SqT.of (s1 _ _ ah),rfl,(szLn 1),fun p hp=>?_⟩;obtain⟨H2,z1,s2,k2⟩:=gs hp (.tup [.str pc.res]);rw[z1];refine⟨pt,p,_,_,rfl,rfl,SqT.of ((s1.trans s2) _ _ aX),SqT.of k2,(by rw[Ad];exact Aw (Il a0 1) (by decide)),fun u H3 s3 aW=>?_⟩;have aj:SqT K H3 u ((pc.ps++[pc.res]).map V.str):=by rw[Ax];exact aW
 have e3:=(s1.trans s2).trans s3;have k3:=s3 _ _ (s2 _ _ k1);have aV:∀y∈pc.ps++[pc.res],y∈xs++[("nil":Str),""]:=fun y O=>by
  rcases Aq.mp O with z|z
  . exact AD _ (hok.px y z)
  . rw[Ap.mp z];rcases hok.res with w|w
    . rw[w];simp
    . exact AD _ w
 refine⟨u,rfl,⟨_,aj⟩,?_⟩;refine ac2 (xs:=(pc.ps++[pc.res]).map V.str) (fun i σ G=>∃(S:List Str) (R:Option V),σ=[rQ t,rQ J,R,nQ,nQ,nQ]/\SqT K G u ((pc.ps++[pc.res]).map V.str)/\Same H G/\G J=some (.dK (bK S))/\S.Nodup/\∀y,y∈S↔y∈(pc.ps++[pc.res]).take i) ⟨[],none,rfl,aj,e3,k3,Ft,fun y=>by rw[Da]⟩ ?_ ?_ ?_
 . rintro i σ G hi ⟨S,R,rfl,hu,_⟩;exact hu
 . rintro i x σ G hx ⟨S,R,rfl,hu,eG,kf,nS,mS⟩;rw[Am] at hx;obtain⟨y,O,rfl⟩:=AZ.mp hx;refine⟨_,rfl,_,rfl,J,_,rfl,DPut.k (k:=Sum.inr y) kf (ay nS fun z hz=>aV z (BS ((mS z).mp hz))),?_⟩;rw[a7q];refine⟨addL S y,_,rfl,pi hu fun o W _ h3 _=>by rw[f6 (fun z=>by rw[z,kf] at W;cases W;exact h3 _ rfl)];exact W,fun b o z=>by rw[f6 (gh z aq)];exact eG _ _ z,g8,ze nS,fun z=>?_⟩;rw[mem_addL,mS,tq O,Aq,Ap]
 rintro σ G ⟨S0,R,rfl,_,eG,kf,nS,mS⟩;refine aL _ _ ?_;clear aL aW aj s2 s3 k2 hp k1 s1 e3 k3;rw[Ad,BK] at mS;refine i5 fun D3 aT _ _=>?_;obtain⟨ap,aN,aw,al⟩:=xg px.body (hok.bd.ok (B 5));refine⟨_,rfl,t,_,5,_,rfl,rfl,SqT.of (eG _ _ ah),rfl,bd,_,rfl,.inl (SqL.of (eG _ _ aN)),fun l ai=>?_⟩;obtain⟨H4,z2,s4,k4⟩:=gs ai (.lst (ap.map fun w=>V.ref w.1));dsimp only[gt];rw[z2];refine aT [rQ t,rQ J,R,rQ l,nQ,nQ] _ ?_;clear aT;have au:H l=none:=eG.free ai;have ao:J≠l:=fun z=>by rw[<- z,kf] at ai;cases ai
 refine ke (a:=ui _ _) fun D4 aD _ _=>?_;refine⟨fun n σ G=>∃(S:List Str) (ws:List Wt) (R z4 z5:Option V),n=wtN ws/\σ=[rQ t,rQ J,R,rQ l,z4,z5]/\Same H G/\G J=some (.dK (bK S))/\S.Nodup/\G l=some (.lst (ws.map fun w=>V.ref w.1))/\(∀w∈ws,WtOk K H ⟨xs,hs⟩ w)/\wtN ws<=28/\(∀y∈S,y∈xs++[("nil":Str),""])/\∀y,(y∈S\/y∈(ws.flatMap wtD).flatMap wrd)↔y∈qk pc,⟨_,S0,ap,R,none,none,rfl,rfl,eG.trans s4,s4 _ _ kf,nS,k4,aw,by rw[qz,al];exact hok.bd.len _,fun y O=>aV y ((mS y).mp O),fun y=>?_⟩,?_⟩
 . rw[mS,al];unfold qk;rw[Aq (s:=pc.ps++[pc.res])]
 clear aw al k4 s4 kf nS mS aN eG ai;rintro n σ G2 ⟨S,ws,R,z4,z5,rfl,rfl,eG,kf,nS,kw,aO,hn,sS,mem⟩;refine⟨_,rfl,(szLn 0),fun en aP=>?_⟩;obtain⟨G5,z3,s5,k5⟩:=gs aP (.lst []);rw[z3];refine⟨l,en,_,rfl,rfl,s5 _ _ kw,k5,_,rfl,iteB (fun c1=>?_) (fun c1=>?_)⟩
 rotate_left
 . have e0:ws=[]:=by
    have:=of_decide_eq_false c1;cases ws with
    | nil=>rfl
    | cons w ws=>exact absurd (by simp) this
   subst e0;refine aD _ _ ?_;clear aD;have a5:=s5 _ _ kf;have e5:=eG.trans s5;have bb:S.length<=8:=by
    have:=AV nS sS;rw[Ai,be] at this;exact this
   refine⟨_,rfl,J,_,rfl,a5,fun od nf=>?_⟩;have hJ:JSeq (Itk J od (bK S)) (fun H=>H J=some (.frz od (.dK (bK S)))) (S.map V.str):=by rw[<- ad0];exact ad6
   refine zy S wo hJ g8 (by lia) (fun n hn G3 e3 Q' q'=>?_) (fun n G3 Q' q'=>⟨_,rfl,q'⟩) fun D G3 hD e3 bf=>?_
   . have a1:=q' G3 (Same.refl _);unfold wo at a1;refine⟨_,rfl,rfl,_,rfl,iteB (fun c=>⟨_,rfl,rfl,_,rfl,?_⟩) (fun c=>?_)⟩
     . rw[c,JS] at a1;exact a1
     . rw[c,Fq] at a1;exact a1
   have a3:G3 J=some (.frz od (.dK (bK S))):=e3 _ _ g8;have nD:D≠J:=fun z=>by rw[z,g8] at hD;cases hD
   have aS:∀y,y∈S.filter wo↔y≠"" /\ y≠"nil" /\ y∈qk pc:=fun y=>by
    rw[Du,a6m,<- mem];exact⟨fun⟨a,b,c⟩=>⟨b,c,.inl a⟩,fun⟨b,c,a⟩=>⟨a.elim id (fun z=>by cases z),b,c⟩⟩
   have bj:(S.filter wo).length<=8:=Aw (BP _ _) bb;have e4:Same H (upd G3 J (.dK (bK S))):=fun b u z=>by
    have nb:b≠J:=gh z aq;rw[f6 nb];exact e3 _ _ (by rw[f6 nb];exact e5 _ _ z)
   exact⟨J,od,.dK (bK S),a3,nf,.mk D _ rfl (SqL.of (by rw[f6 nD];exact bf)) (by lia) fun zp zs hz pm M=>q zp zs _ (e4.trans (gk hz _)) (e4.free hz) g8 (pm.nodup_iff.mpr (nS.filter _)) fun y=>(pm.mem_iff).trans (aS y)⟩
 have aE:ws≠[]:=fun z=>by have:=of_decide_eq_true c1;rw[z] at this;exact this rfl
 obtain⟨j,w,rfl⟩:∃(j:List Wt) (w:Wt),ws=j++[w]:=⟨ws.dropLast,ws.getLast aE,(DP aE).symm⟩
 clear aD c1 aE;have aG:G5 l=some (.lst (j.map (fun w=>V.ref w.1)++[V.ref w.1])):=by rw[s5 _ _ kw,Ax];rfl
 have aJ:(j.map (fun w=>V.ref w.1)++[V.ref w.1])[(j.map (fun w=>V.ref w.1)++[V.ref w.1]).length-1]?=some (V.ref w.1):=by
  rw[Ai,Be,FH];exact DQ
 refine⟨fun σ' G'=>∃(S:List Str) (ws:List Wt) (R z4 z5:Option V),wtN ws<wtN (j++[w])/\σ'=[rQ t,rQ J,R,rQ l,z4,z5]/\Same H G'/\G' J=some (.dK (bK S))/\S.Nodup/\G' l=some (.lst (ws.map fun w=>V.ref w.1))/\(∀w∈ws,WtOk K H ⟨xs,hs⟩ w)/\wtN ws<=28/\(∀y∈S,y∈xs++[("nil":Str),""])/\∀y,(y∈S\/y∈(ws.flatMap wtD).flatMap wrd)↔y∈qk pc,fun σ' G' hN=>?_,?_⟩
 . obtain⟨S,ws,R,z4,z5,aY,r⟩:=hN;exact⟨wtN ws,aY,S,ws,R,z4,z5,rfl,r⟩
 refine i5 fun E1 aM _ _=>?_;refine⟨_,rfl,.inl ⟨rfl,_,SqL.of aG⟩,l,_,_,rfl,rfl,aG,aJ,?_⟩;rw[Fj];have I:Same H (upd G5 l (.lst (j.map fun w=>V.ref w.1))):=fun b o z=>by rw[f6 (gh z au)];exact s5 _ _ (eG _ _ z)
 have ak:(upd G5 l (.lst (j.map fun w=>V.ref w.1))) J=some (.dK (bK S)):=by rw[f6 ao];exact s5 _ _ kf
 have af:(upd G5 l (.lst (j.map fun w=>V.ref w.1))) l=some (.lst (j.map fun w=>V.ref w.1)):=g8;dsimp only[gt];generalize upd G5 l (.lst (j.map fun w=>V.ref w.1))=G6 at I ak af |-;obtain⟨L,d,m⟩:=w;refine aM [rQ t,rQ J,R,rQ l,rQ L,z5] _ ?_;clear aM aJ aG kf kw eG s5 k5 aP;obtain⟨ae,aU⟩:=aO (L,d,m) (AG _ (Ap.mpr rfl));have ae:DeedX K H (ListX K H (B m)) L d:=ae;have ag:DG ⟨xs,hs⟩ d:=aU d Ag;have N:∀es∈innL d,∀e∈allL (B m) es,DG ⟨xs,hs⟩ e:=fun es a9 e he=>aU e (Al _ (Bu.mpr ⟨es,a9,he⟩));have wN:wtN (j++[(L,d,m)])=wtN j+(((innL d).flatMap (allL (B m))).length+1):=by
  unfold wtN;rw[Ax,JI];rfl
 have wl:=a00 j;refine m3 fun E2 aR _ _=>?_;have ar:∀(X:Hp) (M:KA) (us:List Str) (pu:List Wt),Same H X->X J=some (.dK (bK S))->X M=some (.lst (us.map V.str))->X l=some (.lst ((j++pu).map fun w=>V.ref w.1))->(∀w∈pu,WtOk K H ⟨xs,hs⟩ w)->us=wrd d->(pu.flatMap wtD).Perm ((innL d).flatMap (allL (B m)))->E2.nx [rQ t,rQ J,R,rQ l,rQ L,rQ M] X:=fun X M us pu e7 f7 ks bc okp aK pe=>by
  refine aR _ _ ?_;have a6:M≠J:=fun z=>by rw[z,f7] at ks;cases ks
  refine⟨_,rfl,M,rfl,⟨_,SqL.of ks⟩,?_⟩;refine ld (xs:=us.map V.str) (fun i σ G=>∃(S':List Str) (R:Option V),σ=[rQ t,rQ J,R,rQ l,rQ L,rQ M]/\Same H G/\G J=some (.dK (bK S'))/\S'.Nodup/\G M=some (.lst (us.map V.str))/\G l=some (.lst ((j++pu).map fun w=>V.ref w.1))/\(∀y∈S',y∈xs++[("nil":Str),""])/\∀y,y∈S'↔y∈S\/y∈us.take i) ⟨S,R,rfl,e7,f7,nS,ks,bc,sS,fun y=>by rw[Da];exact⟨.inl,fun h=>h.elim id fun z=>by cases z⟩⟩ ?_ ?_ ?_
  . rintro i σ G hi ⟨S',R,rfl,_,_,_,ks,_⟩;exact SqL.of ks
  . rintro i x σ G hx ⟨S',R,rfl,e8,f8,n8,ks,U,s8,m8⟩;rw[Am] at hx;obtain⟨y,O,rfl⟩:=AZ.mp hx;have ba:y∈wrd d:=by rw[<- aK];exact AE O
    refine⟨_,rfl,_,rfl,J,_,rfl,DPut.k (k:=Sum.inr y) f8 (ay n8 s8),?_⟩;rw[a7q];refine⟨addL S' y,_,rfl,fun b o z=>by rw[f6 (gh z aq)];exact e8 _ _ z,g8,ze n8,by rw[f6 a6];exact ks,by rw[f6 (AO ao)];exact U,fun z hz=>?_,fun z=>?_⟩
    . rcases mem_addL.mp hz with w|w
      . exact s8 z w
      . rw[w];exact wx ag y ba
    . rw[mem_addL,m8,tq O,Aq,Ap,or_assoc]
  . rintro σ G ⟨S',R,rfl,e8,f8,n8,_,U,s8,m8⟩;rw[Ad,BK] at m8;have pl:=pe.length_eq;have bh:wtN (j++pu)=wtN j+((innL d).flatMap (allL (B m))).length:=by
     rw[<- pl,<- qz];unfold wtN;rw[Ax,JI]
    refine⟨S',j++pu,R,_,_,by lia,rfl,e8,f8,n8,U,fun w hw=>(Aq.mp hw).elim (fun z=>aO w (AD _ z)) (fun z=>okp w z),by lia,s8,fun y=>?_⟩;rw[<- mem,m8,aK,Ca,Ca,Ca,Ca,Aq,Aq];have e1:y∈(pu.flatMap wtD).flatMap wrd↔y∈((innL d).flatMap (allL (B m))).flatMap wrd:=by
     rw[Bu,Bu];exact⟨fun⟨x,W,h2⟩=>⟨x,pe.mem_iff.mp W,h2⟩,fun⟨x,W,h2⟩=>⟨x,pe.mem_iff.mpr W,h2⟩⟩
    have e2:y∈([(L,d,m)].flatMap wtD).flatMap wrd↔y∈wrd d\/y∈((innL d).flatMap (allL (B m))).flatMap wrd:=by
     rw[BF];show y∈(d::(innL d).flatMap (allL (B m))).flatMap wrd↔_;rw[C8,Aq]
    rw[e1,e2];constructor
    . rintro ((h|h)|h|h)
      . exact .inl h
      . exact .inr (.inr (.inl h))
      . exact .inr (.inl h)
      . exact .inr (.inr (.inr h))
    . rintro (h|h|h|h)
      . exact .inl (.inl h)
      . exact .inr (.inl h)
      . exact .inl (.inr h)
      . exact .inr (.inr h)
 clear aR;have ax:wtN j+(((innL d).flatMap (allL (B m))).length+1)<=28:=by rw[<- wN];exact hn
 have aQ:("while":Str)≠"if" := by decide
 cases d with
 | cond r ca cb =>
  obtain⟨f0,Y,Z,rfl,_,_,_⟩:=ag;cases ae with
  | cond c i o _ _ _ h hc okr hi ho =>
   obtain⟨wa,ka,oa,fa⟩:=xg hi (N ca Ag);obtain⟨wb,kb,ob,fb⟩:=xg ho (N cb (Al _ Ag));have la:=a00 wa;have lb:=a00 wb;rw[qz,fa] at la;rw[qz,fb] at lb;have il:((innL (.cond [f0,Y,Z] ca cb)).flatMap (allL (B m)))=allL (B m) ca++allL (B m) cb:=by
    show[ca,cb].flatMap _=_;rw[C8,BF]
   rw[il,Ai] at ax;refine⟨_,rfl,L,_,0,_,rfl,rfl,SqT.of (I _ _ h),at0,rfl,_,rfl,iteB (fun _=>?_) (fun c=>absurd c (by simp))⟩;refine i5 fun E3 an _ _=>?_;refine⟨_,rfl,L,_,1,_,rfl,rfl,SqT.of (I _ _ h),rfl,_,rfl,c,_,rfl,SqT.of (I _ _ hc),fun p X e7 hp=>?_⟩;have aH:SqT K X p (([Y,Z]:List Str).map V.str):=hp;refine⟨p,_,rfl,.inr aH,fun M T=>?_⟩;obtain⟨G8,z6,s8,k8⟩:=gs T (.lst (([Y,Z]:List Str).map V.str));dsimp only[gt];rw[z6];have e8:=e7.trans s8;refine an [rQ t,rQ J,R,rQ l,rQ L,rQ M] _ ?_;clear an;have ab:=I.trans e8;have U:=e8 _ _ af;have av:M≠l:=fun z=>by rw[z,e7 _ _ af] at T;cases T
   refine ke (a:=n0 _) fun E4 aC _ _=>?_;refine⟨_,rfl,.inl ⟨rfl,_,SqL.of U⟩,_,rfl,_,rfl,L,_,_,_,rfl,rfl,SqT.of (ab _ _ h),rfl,l,o,_,_,rfl,rfl,U,ab _ _ kb,io (by rw[Ad,Ad];lia),?_⟩;have e9:Same H (upd G8 l (.lst (j.map (fun w=>V.ref w.1)++wb.map fun w=>V.ref w.1))):=fun b o z=>by rw[f6 (gh z au)];exact ab _ _ z
   have f9:(upd G8 l (.lst (j.map (fun w=>V.ref w.1)++wb.map fun w=>V.ref w.1))) J=some (.dK (bK S)):=by rw[f6 ao];exact e8 _ _ ak
   have k9:(upd G8 l (.lst (j.map (fun w=>V.ref w.1)++wb.map fun w=>V.ref w.1))) M=some (.lst (([Y,Z]:List Str).map V.str)):=by rw[f6 av];exact k8
   have ac:(upd G8 l (.lst (j.map (fun w=>V.ref w.1)++wb.map fun w=>V.ref w.1))) l=some (.lst (j.map (fun w=>V.ref w.1)++wb.map fun w=>V.ref w.1)):=g8;generalize upd G8 l (.lst (j.map (fun w=>V.ref w.1)++wb.map fun w=>V.ref w.1))=G9 at e9 f9 k9 ac |-;refine aC [rQ t,rQ J,R,rQ l,rQ L,rQ M] _ ?_;refine⟨_,rfl,L,_,0,_,rfl,rfl,SqT.of (e9 _ _ h),at0,rfl,_,rfl,iteB (fun _=>?_) (fun c=>absurd c (by simp))⟩;refine⟨_,rfl,.inl ⟨rfl,_,SqL.of ac⟩,_,rfl,L,_,2,_,rfl,rfl,SqT.of (e9 _ _ h),rfl,l,i,_,_,rfl,rfl,ac,e9 _ _ ka,io (by rw[Ai,Ad,Ad,Ad];lia),?_⟩;refine ar _ M [Y,Z] (wb++wa) (fun b o z=>by rw[f6 (gh z au)];exact e9 _ _ z) (by rw[f6 ao];exact f9) (by rw[f6 av];exact k9) (by rw[g8,Ax,Ax,DF]) (fun w hw=>(Aq.mp hw).elim (ob w) (oa w)) rfl ?_;rw[il,Ca,fa,fb];exact List.perm_append_comm
 | loop r FF PP ca =>
  obtain⟨⟨f0,Y,Z,rfl,_,_,_⟩,rfl,rfl⟩:=ag;cases ae with
  | loop c tt i fa' pa' _ _ _ _ h hc okr htd hF hP okF okP lF lP hi =>
   obtain⟨wa,ka,oa,fa⟩:=xg hi (N ca Ag);have la:=a00 wa;rw[qz,fa] at la;have il:((innL (.loop [f0,Y,Z] [] [] ca)).flatMap (allL (B m)))=allL (B m) ca:=by
    show[ca].flatMap _=_;rw[BF]
   rw[il] at ax;refine⟨_,rfl,L,_,0,_,rfl,rfl,SqT.of (I _ _ h),at0,rfl,_,rfl,iteS aQ ?_⟩;refine⟨_,rfl,L,_,0,_,rfl,rfl,SqT.of (I _ _ h),at0,rfl,_,rfl,iteB (fun _=>?_) (fun c=>absurd c (by simp))⟩;refine i5 fun E3 an _ _=>?_;refine⟨_,rfl,L,_,1,_,rfl,rfl,SqT.of (I _ _ h),rfl,_,rfl,c,_,rfl,SqT.of (I _ _ hc),fun p X e7 hp=>?_⟩;have aH:SqT K X p (([Y,Z]:List Str).map V.str):=hp;refine⟨p,_,rfl,.inr aH,fun M T=>?_⟩;obtain⟨G8,z7,s8,k8⟩:=gs T (.lst (([Y,Z]:List Str).map V.str));dsimp only[gt];rw[z7];have e8:=e7.trans s8;refine an [rQ t,rQ J,R,rQ l,rQ L,rQ M] _ ?_;clear an;have ab:=I.trans e8;have U:=e8 _ _ af;have av:M≠l:=fun z=>by rw[z,e7 _ _ af] at T;cases T
   refine ke (a:=n0 _) fun E4 aC _ _=>?_;refine⟨_,rfl,.inl ⟨rfl,_,SqL.of U⟩,_,rfl,_,rfl,L,_,_,_,rfl,rfl,SqT.of (ab _ _ h),rfl,l,i,_,_,rfl,rfl,U,ab _ _ ka,io (by rw[Ad,Ad];lia),?_⟩;have e9:Same H (upd G8 l (.lst (j.map (fun w=>V.ref w.1)++wa.map fun w=>V.ref w.1))):=fun b o z=>by rw[f6 (gh z au)];exact ab _ _ z
   have f9:(upd G8 l (.lst (j.map (fun w=>V.ref w.1)++wa.map fun w=>V.ref w.1))) J=some (.dK (bK S)):=by rw[f6 ao];exact e8 _ _ ak
   have k9:(upd G8 l (.lst (j.map (fun w=>V.ref w.1)++wa.map fun w=>V.ref w.1))) M=some (.lst (([Y,Z]:List Str).map V.str)):=by rw[f6 av];exact k8
   have ac:(upd G8 l (.lst (j.map (fun w=>V.ref w.1)++wa.map fun w=>V.ref w.1))) l=some (.lst ((j++wa).map fun w=>V.ref w.1)):=by rw[g8,Ax]
   generalize upd G8 l (.lst (j.map (fun w=>V.ref w.1)++wa.map fun w=>V.ref w.1))=G9 at e9 f9 k9 ac |-;refine aC [rQ t,rQ J,R,rQ l,rQ L,rQ M] _ ?_;refine⟨_,rfl,L,_,0,_,rfl,rfl,SqT.of (e9 _ _ h),at0,rfl,_,rfl,iteS aQ ?_⟩;refine ar _ M [Y,Z] wa e9 f9 k9 ac oa rfl ?_;rw[il,fa]
 | plain pl =>
  have aA:(([]:List Wt).flatMap wtD).Perm ((innL (.plain pl)).flatMap (allL (B m))):=Eu _;have aB:G6 l=some (.lst ((j++([]:List Wt)).map fun w=>V.ref w.1)):=by rw[Dw];exact af
  cases pl with
  | call x cc vs =>
   obtain⟨v,am,hv⟩:PlAt H L (.call x cc vs):=by cases ae with|plain _ W _=>exact W
   have nc:("call":Str)≠"if" /\ ("call":Str)≠"while" := by decide
   refine⟨_,rfl,L,_,0,_,rfl,rfl,SqT.of (I _ _ am),at0,rfl,_,rfl,iteS nc.1 ?_⟩;refine⟨_,rfl,L,_,0,_,rfl,rfl,SqT.of (I _ _ am),at0,rfl,_,rfl,iteS nc.2 ?_⟩;refine⟨_,rfl,L,_,0,_,rfl,rfl,SqT.of (I _ _ am),at0,rfl,_,rfl,iteB (fun _=>?_) (fun c=>absurd c (by simp))⟩;refine⟨_,rfl,L,_,1,_,rfl,rfl,SqT.of (I _ _ am),rfl,(szLn 1),fun u hu=>?_⟩;obtain⟨X,z8,s7,k7⟩:=gs hu (.lst [V.str x]);rw[z8];refine⟨_,rfl,L,_,3,_,rfl,rfl,SqT.of (s7 _ _ (I _ _ am)),rfl,v,_,rfl,.inr (SqT.of (s7 _ _ (I _ _ hv))),fun u2 a4=>?_⟩;obtain⟨G8,z9,s8,k8⟩:=gs a4 (.lst (vs.map V.str));rw[z9];obtain⟨_,_,g,aZ,_⟩:=ag;have vl:vs.length<=900:=Aw (a8 _ aZ) (by decide);refine⟨u,u2,_,_,rfl,rfl,s8 _ _ k7,k8,io (by rw[Ad];show 1+_<=1000;lia),fun M T=>?_⟩;have s9:=gk T (.lst ([V.str x]++vs.map V.str));have e9:=(s7.trans s8).trans s9;dsimp only[gt];exact ar _ M (x::vs) [] (I.trans e9) (e9 _ _ ak) g8 (e9 _ _ aB) (fun w hw=>by cases hw) rfl aA
  | row r =>
   obtain⟨d',rfl,bg⟩:=ag;have az:H L=some (.tup ((rowD d').map V.str)):=by cases ae with|plain _ W _=>exact W
   obtain⟨w0,rest,ew,n1,n2,n3⟩:∃(w0:Str) (rest:List Str),rowD d'=w0::rest/\w0≠"if" /\ w0≠"while" /\ w0≠"call" := by
    cases d'<;>exact⟨_,_,rfl,by decide,by decide,by decide⟩
   have aa:H L=some (.tup (.str w0::rest.map V.str)):=by rw[az,ew];rfl
   refine⟨_,rfl,L,_,0,_,rfl,rfl,SqT.of (I _ _ aa),at0,rfl,_,rfl,iteS n1 ?_⟩;refine⟨_,rfl,L,_,0,_,rfl,rfl,SqT.of (I _ _ aa),at0,rfl,_,rfl,iteS n2 ?_⟩;refine⟨_,rfl,L,_,0,_,rfl,rfl,SqT.of (I _ _ aa),at0,rfl,_,rfl,iteS n3 ?_⟩;refine⟨_,rfl,.mk L d' rfl (I _ _ az) fun r1 X e7 a2=>?_⟩;refine⟨r1,_,rfl,.inr a2,fun M T=>?_⟩;have s8:=gk T (.lst ((oi d').map V.str));have e8:=e7.trans s8;dsimp only[gt];exact ar _ M (oi d') [] (I.trans e8) (e8 _ _ ak) g8 (e8 _ _ aB) (fun w hw=>by cases hw) (vq d').symm aA
inductive spByX(K:Ab)(vs:List V)(H:Hp)(Q:VK)(E:XK):Prop
 | mk (l:KA)(ts:List KA)(ns:List Str)(h0:vs=[.ref l])(h1:H l=some (.lst (ts.map V.ref)))(h2:KI (fun t n=>∃us,H t=some (.tup (.str n::us))) ts ns)(h3:ns.Nodup)(h4:ts.length<=10)(q:∀d H',Same H H'->H d=none->H' d=some (.dK ((byK ns ts).map kk))->Q (.ref d) H'):spByX K vs H Q E
noncomputable def PrcN(K:Ab)(G:Hp)(Z:KA->Prop)(bs:List Nat)(t:KA)(p:Prc):Prop:=∃pt t1 t2 f1 p1 f2 p2 bd,PrcX K G bs t pt t1 t2 f1 p1 f2 p2 bd p/\¬ Z f1/\¬ Z p1/\¬ Z f2/\¬ Z p2
inductive spMInitX(K:Ab)(CM CF:KA)(bs:List Nat)(vs:List V)(H:Hp)(Q:VK)(E:XK):Prop
 | mk (G:Hp)(Z:KA->Prop)(m dx l q0 nm hd:KA)(x:Str)(ts:List KA)(pcs:List Prc)(j:Nat)(pc:Prc)(xs:List Str)(kvs cvs:List (Key×V))(ns:List Int)(pp:Pre)(k:Nat)(due:Pre×Nat)(h0:vs=[.ref m,.ref l,.str x,.ref q0,.ref nm,.ref hd])(eG:Same G H)(hm:G m=none)(hm1:H m=some (.ins CM dx []))(hl:G l=some (.lst (ts.map V.ref)))(hZ:∀c,Z c->∃us,H c=some (.lst us))(hp:KI (PrcN K G Z bs) ts pcs)(hn:(pcs.map (·.name)).Nodup)(h10:pcs.length<=10)(hj:pcs[j]?=some pc)(hx:pc.name=x)(hok:PrcOk bs xs pc)(hq:SqT K G q0 ((flat pp++[(k:Int)]).map V.int))(hst:∀G' bd,ListX K G' bs bd pc.body->∃e,Stands G' bd pp k due e)(hpp:pp.length<=40)(hnm:G nm=some (.dK kvs))(hhd:G hd=some (.dK cvs))(hns:cvs.map (·.1)=ns.map Sum.inl)(q:∀G1 pd fl p dxp q1 nd cd pr bd prs fsm fs zs g H',MNew K CM CF bs (rm Z G) H' m dx pcs pc j kvs cvs due ns G1 pd fl p dxp q1 nd cd pr bd prs fsm fs zs g->(∀b,(G b=none/\H b≠none)\/Z b->G1 b=none)->jt m H H'->(∀b,b=cd\/b=fl\/b=p\/b=nd\/b=pd->H b=none)->Q .non H'):spMInitX K CM CF bs vs H Q E
theorem aex(C:Con K mg w)(F:GF K "by_names" yl):FC K mg w 1 "by_names" (spByX K):=by
 refine F.ok C.gf 1 ["program"] fun H vs Q E hr h nd=>?_;obtain⟨l,ts,ns,rfl,hl,c,hnd,O,q⟩:=h;refine⟨_,(gi (gz (ii (zi (K:=K) rfl rfl) rfl C.dict BW (jk (qw (me (qv 0)) (fun _ _ _ _=>mn) (fun _ _ _ _=>(j5 (gq (gx K (qv 0) dn) (gj (qv 0) ad))))) ad)))),?_⟩;have u:=Ay c;refine⟨_,rfl,l,rfl,⟨_,SqL.of hl⟩,?_⟩;refine nk (ts.map V.ref) (ns.zip ts) (fun D G y (x:Str×KA)=>∃b,y=V.ref b/\b≠D/\G b=some (.tup [.str x.1,.ref x.2])) id nr (SqL.of hl) (by rw[Ad];lia) (by rw[Ad,Ec];lia) (fun D G T y x z e=>?_) (fun D L j x r s m p i a S N=>?_) (fun D p ys L i a hpt=>?_)
 . obtain⟨b,rfl,nb,hb⟩:=z;exact⟨b,rfl,nb,e _ _ hb nb⟩
 . rw[Am] at s;obtain⟨t,ht,rfl⟩:=AZ.mp s;obtain⟨n,hn,us,J⟩:=Paired.nth c ht;have o:r=(n,t):=by
    have:(ns.zip ts)[j]?=some (n,t):=List.getElem?_zip_eq_some.mpr ⟨hn,ht⟩;rw[m] at this;exact Au this
   subst o;refine⟨_,rfl,t,_,0,_,rfl,rfl,SqT.of (i _ _ J),at0,_,rfl,(szLn 2),fun b hb=>N (.ref b) _ (gk hb _) ⟨b,rfl,fun z=>?_,g8⟩⟩;rw[z] at hb;exact a hb
 rw[CZ] at hpt;obtain⟨us,rfl,g⟩:=m9 (R:=fun b (x:Str×KA)=>b≠D/\p b=some (.tup [.str x.1,.ref x.2])) hpt;have I:(ns.zip ts).length=ns.length:=by rw[Ec];lia
 have M:=Ay g;refine⟨D,us,byK ns ts,rfl,SqL.of a,?_,?_,(by lia),fun d hd=>q d _ (i.trans (gk hd _)) (i.free hd) g8⟩
 . exact a26 g
 . unfold byK;rw[BA];show ((ns.zip ts).map (·.1)).Nodup;rw[List.map_fst_zip (by lia)];exact hnd
theorem a6l(C:Con K mg w)(T:TxM K mg s fI)(U:TxF K mg CF fJ)(F:GM K s "__init__" "Machine.__init__" a30)(GO:FC K mg w n "own_deeds" (spCopy K bs))(GB:FC K mg w 1 "by_names" (spByX K))(GI:MC K mg w CF n "__init__" (spFInit K CF bs)):MC K mg w s (n+1+1) "__init__" (spMInitX K s CF bs):=by
 refine F.ok id 6 ["self","program","name","path","values","heap"] fun H vs Q E hr h nd=>?_;obtain⟨G,Z,m,dx,l,q0,nm,hd,x,ts,pcs,j,pc,xs,kvs,I,ns,pp,k,due,rfl,eG,hm,aA,hl,hZ,hp,aF,bo,hj,hx,hok,hq,bi,aa,aC,ar,aW,q⟩:=h;have a3:=l0 hr;have a8:=hr.mono (j:=1) (by lia);have aY:=hr.mono (j:=n) (by lia);refine⟨_,gc (kx (K:=K) rfl (qv 0) (gr GB a8 (jk (qw (me (qv 1)) (fun _ _ _ _=>mn) (fun _ _ _ _=>(gp (su (K:=K) rfl) (ja (ur (K:=K) rfl) (qv 0) jp (j8 dn)) (j5 (gw (gr GO aY (gq (gx K (qv 0) dn) ad)) ad))))) ad)))
  (gc (kx (K:=K) rfl (qv 0) (i9 (gw (a1c U.mkC GI hr U.mgC (gq (qr a3 (im K (qv 0)) (qv 2) (fun _ _=>rfl)) (gj (qv 3) (gj (qv 4) (ie ad))))) ad)))
  (gc (kx (K:=K) rfl (qv 0) (ii qf rfl C.dict BW (gj (qv 5) ad)))
  (gc (kx (K:=K) rfl (qv 0) (adu (K:=K) rfl rfl rfl C.max (ii (a01 rfl) rfl C.list Bt (gj (qv 5) ad)) dn))
  (gi (kx (K:=K) rfl (qv 0) xb))))),?_⟩
 have a2:=Ay hp;obtain⟨W,hW⟩:∃W:KA->Prop,∀c,W c↔(G c=none/\H c≠none)\/Z c:=⟨_,fun _=>EU⟩
 have zG:∀{b:KA} {o:HO},G b=some o->(∀us,o≠.lst us)->(rm Z G) b=some o:=fun {b o} z i=>by
  rw[ib fun y=>by obtain⟨us,e⟩:=hZ b y;rw[eG _ _ z] at e;exact i us (Au e)];exact z
 have zR:∀{b:KA} {r:List Str},RowAt K G b r->RowAt K (rm Z G) b r:=fun {b r} z=>by
  rcases z with (z|⟨o,z⟩)|z
  . exact .inl (.inl (zG z fun _ y=>by cases y))
  . exact .inl (.inr ⟨o,zG z fun _ y=>by cases y⟩)
  . exact .inr z
 have zF:∀{b:KA} {F:List (List Str)},¬ Z b->RowsAt K G b F->RowsAt K (rm Z G) b F:=fun {b F} nb z=>by
  obtain⟨as,z1,z2⟩:=z;exact⟨as,by rw[ib nb];exact z1,Paired.mapP z2 fun _ _ y=>zR y⟩
 have zT:∀{b:KA} {vs:List V},SqT K G b vs->SqT K (rm Z G) b vs:=fun {b vs} z=>by
  rcases z with (z|⟨o,z⟩)|z
  . exact .inl (.inl (zG z fun _ y=>by cases y))
  . exact .inl (.inr ⟨o,zG z fun _ y=>by cases y⟩)
  . exact .inr z
 have hq:=zT hq;have aC:=zG aC fun _ y=>by cases y
 have ar:=zG ar fun _ y=>by cases y
 have nW:∀{c:KA} {H':Hp},Same H H'->H' c=none->¬ W c:=fun {c H'} e z y=>by
  rcases (hW c).mp y with y|y
  . exact y.2 (e.free z)
  . obtain⟨us,y⟩:=hZ c y;rw[e _ _ y] at z;cases z
 refine⟨_,rfl,l,rfl,⟨_,SqL.of (eG _ _ hl)⟩,?_⟩;have gR:∀{D:KA} {N:Hp},H D=none->Same H N->Same (rm Z G) (rm (fun c=>c=D\/W c) N):=fun {D N} hD e b o z=>by
  obtain⟨z1,z2⟩:=j4 z;rw[ib (fun y=>y.elim (gh (eG _ _ z2) hD) (fun w=>((hW b).mp w).elim (fun w=>by rw[w.1] at z2;cases z2) z1))];exact e _ _ (eG _ _ z2)
 have gX:∀{D:KA} {N:Hp},H D=none->Same H N->Same G (rm (fun c=>c=D\/(G c=none/\H c≠none)) N):=fun {D N} hD e b o z=>by
  rw[ib (fun y=>y.elim (gh (eG _ _ z) hD) (fun w=>by rw[w.1] at z;cases z))];exact e _ _ (eG _ _ z)
 refine nk (ts.map V.ref) pcs (fun D G' y pc=>∃b,y=V.ref b/\PrcAt K (rm (fun c=>c=D\/W c) G') bs b pc) id nr (SqL.of (eG _ _ hl)) (by rw[Ad];lia) (by rw[Ad];exact a2.symm) (fun D G1 G2 y x z e=>?_) (fun D hD i x r hx be N Y ak Q' q'=>?_) (fun D N ys hD Y ak hpt=>?_)
 . obtain⟨b,rfl,hb⟩:=z;exact⟨b,rfl,hb.same (xx e (.inl rfl))⟩
 . rw[Am] at hx;obtain⟨t,ht,rfl⟩:=AZ.mp hx;obtain⟨r',aE,ac,t1,t2,f1,p1,f2,p2,bd,px,i1,i2,i3,i4⟩:=Paired.nth hp ht;rw[be] at aE;cases aE;have eH:=eG.trans Y;refine⟨_,rfl,_,rfl,t,_,rfl,SqT.of (eH _ _ px.tup),fun u1 H3 e3 hu=>?_⟩;have aZ:=eH.trans e3;refine⟨_,rfl,t,_,5,_,rfl,rfl,SqT.of (aZ _ _ px.tup),rfl,.mk (fun c=>c=D\/(G c=none/\H c≠none)) (fun c=>c=D\/W c) bd r.body rfl (fun c z y=>?_) (fun c z=>z.elim (fun z=>.inl (.inl z)) fun z=>((hW c).mp z).imp .inr fun z=>by obtain⟨us,z⟩:=hZ c z;exact⟨us,(Y.trans e3) _ _ z⟩) (px.body.same (gX hD (Y.trans e3))) fun l' H4 e4 h4=>?_⟩
   . rcases z with rfl|z
     . exact ak (e3.free y)
     . exact z.2 ((Y.trans e3).free y)
   refine⟨(szLn 1),fun u2 bf=>?_⟩;obtain⟨H5,z0,s5,k5⟩:=gs bf (.tup [V.ref l']);rw[z0];refine⟨u1,u2,_,_,rfl,rfl,(e4.trans s5).seqT hu,SqT.of k5,ES _ _,ES _ _,io (show 5+1<=1000 by decide),fun u3 aD=>?_⟩;have e6:=gk aD (.tup (cutV [V.str r.name,V.ref ac,V.str r.res,V.ref t1,V.ref t2,V.ref bd] none (some 5)++[V.ref l']));have h6:(upd H5 u3 (.tup (cutV [V.str r.name,V.ref ac,V.str r.res,V.ref t1,V.ref t2,V.ref bd] none (some 5)++[V.ref l']))) u3=some (.tup [V.str r.name,V.ref ac,V.str r.res,V.ref t1,V.ref t2,V.ref l']):=g8;have aB:Same N H5:=(e3.trans e4).trans s5;have nu:¬ (u3=D\/W u3):=by
    rintro (rfl|z)
    . exact ak (aB.free aD)
    . exact nW (Y.trans aB) aD z
   generalize upd H5 u3 (.tup (cutV [V.str r.name,V.ref ac,V.str r.res,V.ref t1,V.ref t2,V.ref bd] none (some 5)++[V.ref l']))=H6 at e6 h6 |-;have aG:Same N H6:=aB.trans e6;have gg:=gR hD (Y.trans aG);refine q' (.ref u3) H6 aG ⟨u3,rfl,ac,t1,t2,f1,p1,f2,p2,l',?_,gg _ _ (zG px.pt fun _ y=>by cases y),gg _ _ (zG px.t1 fun _ y=>by cases y),gg _ _ (zG px.t2 fun _ y=>by cases y),(zF i1 px.f1).same gg,(zF i2 px.p1).same gg,(zF i3 px.f2).same gg,(zF i4 px.p2).same gg,h4.same (ip (s5.trans e6)),px.okn,px.okr,px.okp,px.ok1,px.ok2,px.l1,px.l2⟩;rw[ib nu];exact h6
 rw[CZ] at hpt;obtain⟨us,rfl,aa⟩:=m9 (R:=fun b pc=>PrcAt K (rm (fun c=>c=D\/W c) N) bs b pc) hpt;have a9:=Ay aa;have aM:KI (fun t n=>∃vs,N t=some (.tup (.str n::vs))) us (pcs.map (·.name)):=by
  have:∀{us:List KA} {pcs:List Prc},KI (PrcAt K (rm (fun c=>c=D\/W c) N) bs) us pcs->KI (fun t n=>∃vs,N t=some (.tup (.str n::vs))) us (pcs.map (·.name)):=fun {us pcs} h=>by
   induction h with
   | nil=>exact .nil
   | cons h1 _ ih=>obtain⟨_,_,_,_,_,_,_,_,px⟩:=h1;exact .cons ⟨_,rm_back _ _ px.tup⟩ ih
  exact this aa
 refine .mk D us (pcs.map (·.name)) rfl ak aM aF (by lia) fun d H3 e3 av hpd=>?_;refine⟨_,rfl,m,s,dx,[],rfl,(Y.trans e3) _ _ aA,T.cl,T.nP,(by decide),?_⟩;have bb:=(Y.trans e3) _ _ aA;have mW:W m:=(hW m).mpr (.inl ⟨hm,fun z=>by rw[aA] at z;cases z⟩);have g1:Same (rm Z G) (rm W H3):=fun b o z=>by
  obtain⟨z1,z2⟩:=j4 z;rw[ib (fun w=>((hW b).mp w).elim (fun w=>by rw[w.1] at z2;cases z2) z1)];exact (Y.trans e3) _ _ (eG _ _ z2)
 have aX:¬ W d:=nW Y av;have aP:H d=none:=Y.free av;have am:rm W H3 d=some (.dK ((byK (pcs.map (·.name)) us).map kk)):=by rw[ib (X:=W) aX];exact hpd
 have ao:KI (PrcAt K (rm W H3) bs) us pcs:=Paired.mapP aa fun _ _ z=>z.same fun b o y=>by
  obtain⟨y1,y2⟩:=j4 y;rw[ib (X:=W) (fun z=>y1 (.inr z))];exact e3 _ _ y2
 have al:∀b,(G b=none/\H b≠none)\/Z b->(rm W H3) b=none:=fun b z=>by unfold rm;rw[if_pos ((hW b).mpr z)]
 have v:Same (rm W H3) (upd H3 m (.ins s dx (mf1 d))):=fun b o z=>by
  obtain⟨y1,y2⟩:=j4 z;rw[f6 (fun z=>y1 (by rw[z];exact mW))];exact y2
 have ay:rm W H3 m=none:=al m ((hW m).mp mW);have ah:(upd H3 m (.ins s dx (mf1 d))) m=some (.ins s dx (mf1 d)):=g8;have x4:jt m H (upd H3 m (.ins s dx (mf1 d))):=fun b o z nb=>by rw[f6 nb];exact (Y.trans e3) _ _ z
 change tSeq _ _ _ _ (upd H3 m (.ins s dx (mf1 d)));generalize rm W H3=G1 at g1 am ao v ay al;generalize upd H3 m (.ins s dx (mf1 d))=H4 at v ah x4 |-;clear hpt aa aM ak hpd bb Y e3;have aS:j<us.length:=by rw[a9];exact (Az.mp hj).1
 have hpr:us[j]?=some us[j]:=Af aS;generalize us[j]=pr at hpr;obtain⟨br,aw,aN⟩:=Paired.nth ao hpr;rw[hj] at aw;cases aw;have bl:(pcs.map (·.name))[j]?=some x:=by rw[Am,hj];show some pc.name=_;rw[hx]
 have hg:=DGet.k (k:=Sum.inr x) (v _ _ am);rw[a25 aF bl hpr] at hg;have aV:(mf1 d).lookup ("procedures":Str)=some (.ref d):=by unfold mf1;rw[gn,if_pos rfl]
 obtain⟨ac,t1,t2,f1,p1,f2,p2,bd,px⟩:=id aN;obtain⟨eo,aR⟩:=bi G1 bd px.body;have aL:=g1.trans v;refine⟨_,rfl,m,s,dx,_,_,rfl,ah,T.cl,T.nP,aV,_,rfl,d,.ref pr,rfl,hg,_,rfl,_,rfl,fun p ab ae a0 bn=>?_⟩;have s5:Same H4 (upd (upd H4 ab (.own p)) p (.ins CF ab [])):=fun b o z=>by rw[f6 (gh z ae),f6 (gh z a0)];exact z
 refine .mk H4 p ab pr q0 nm bd "" pc xs _ _ _ _ _ kvs pp k due eo rfl s5 ae g8 (aN.same v) hok (v _ _ px.tup) (aL.seqT hq) (aR.same v) aa (aL _ _ aC) fun q1 L fs zs H5 e5 a1 a5 hfl hq1 aQ hnd ba bp bm=>⟨rfl,?_⟩
 have af:m≠p:=fun z=>by rw[<- z,ah] at ae;cases ae
 have S:H4 L=none:=s5.free aQ;refine⟨(szLn 1),fun u an=>?_⟩;obtain⟨H6,z3,s6,k6⟩:=gs an (.lst [V.ref p]);dsimp only;rw[z3];obtain⟨l1,l2,_⟩:=tu d u u 0;have ax:=(e5.trans s6) _ _ ah;refine⟨_,rfl,m,s,dx,_,rfl,ax,T.cl,T.nF,(by lia),?_⟩;have aH:(upd H6 m (.ins s dx (mf2 d u))) m=some (.ins s dx (mf2 d u)):=g8;have up:∀{H':Hp} {fs':List (Str×V)} {b:KA} {o:HO},b≠m->H' b=some o->(upd H' m (.ins s dx fs')) b=some o:=fun hb z=>by rw[f6 hb];exact z
 have au:∀{H':Hp} {aJ fs':List (Str×V)} {a:KA} {ys:List V},H' m=some (.ins s dx aJ)->SqT K H' a ys->SqT K (upd H' m (.ins s dx fs')) a ys:=fun {H' aJ fs' a ys} aO h=>by
  rcases h with (h|⟨o,h⟩)|h
  . exact .inl (.inl (by rw[f6 (fun z=>by rw[z,aO] at h;cases h)];exact h))
  . exact .inl (.inr ⟨o,by rw[f6 (fun z=>by rw[z,aO] at h;cases h)];exact h⟩)
  . exact .inr h
 have ap:∀{H':Hp} {fs':List (Str×V)},Same G1 H'->Same G1 (upd H' m (.ins s dx fs')):=fun {H' fs'} e b o z=>up (gh z ay) (e _ _ z);have g7:Same G1 (upd H6 m (.ins s dx (mf2 d u))):=ap ((v.trans e5).trans s6);have aj:u≠m:=fun z=>by rw[z,ax] at k6;cases k6
 have k7:(upd H6 m (.ins s dx (mf2 d u))) u=some (.lst [V.ref p]):=up aj k6;have p7:(upd H6 m (.ins s dx (mf2 d u))) p=some (.ins CF ab fs):=up (AO af) (s6 _ _ a1);have ag:L≠m:=fun z=>by rw[z,ah] at S;cases S
 have n7:(upd H6 m (.ins s dx (mf2 d u))) L=some (.dK ((lv kvs zs).map kk)):=up ag (s6 _ _ hnd);have q7:SqT K (upd H6 m (.ins s dx (mf2 d u))) q1 ((flat due.1++[(due.2:Int)]).map V.int):=au ax (s6.seqT hq1);change tSeq _ _ _ _ (upd H6 m (.ins s dx (mf2 d u)));have aT:G1 u=none:=(v.trans e5).free an;have a4:G1 p=none:=v.free ae;have aU:G1 L=none:=v.free S;have x7:jt m H (upd H6 m (.ins s dx (mf2 d u))):=fun b o z nb=>by rw[f6 nb];exact (e5.trans s6) _ _ (x4 b o z nb)
 generalize upd H6 m (.ins s dx (mf2 d u))=H7 at aH g7 k7 p7 n7 q7 x7 |-;refine⟨_,rfl,hd,I,rfl,(g1.trans g7) _ _ ar,fun cd O=>?_⟩;obtain⟨H8,z4,s8,k8⟩:=gs O (.dK I);rw[z4];have az:=s8 _ _ aH;have aq:cd≠m:=fun z=>by rw[z,az] at k8;cases k8
 have bc:G1 cd=none:=g7.free O;have bj:L≠cd:=gh n7 O;obtain⟨_,_,l3,l4,l5⟩:=tu d u cd 0;refine⟨_,rfl,m,s,dx,_,rfl,az,T.cl,T.nC,(by lia),?_⟩;have aK:(upd H8 m (.ins s dx (mf3 d u cd))) m=some (.ins s dx (mf3 d u cd)):=g8;have g9:Same G1 (upd H8 m (.ins s dx (mf3 d u cd))):=ap (g7.trans s8);have k9:(upd H8 m (.ins s dx (mf3 d u cd))) u=some (.lst [V.ref p]):=up aj (s8 _ _ k7);have p9:(upd H8 m (.ins s dx (mf3 d u cd))) p=some (.ins CF ab fs):=up (AO af) (s8 _ _ p7);have n9:(upd H8 m (.ins s dx (mf3 d u cd))) L=some (.dK ((lv kvs zs).map kk)):=up ag (s8 _ _ n7);have c9:(upd H8 m (.ins s dx (mf3 d u cd))) cd=some (.dK I):=up aq k8;have q9:SqT K (upd H8 m (.ins s dx (mf3 d u cd))) q1 ((flat due.1++[(due.2:Int)]).map V.int):=au az (s8.seqT q7);change tSeq _ _ _ _ (upd H8 m (.ins s dx (mf3 d u cd)));have x9:jt m H (upd H8 m (.ins s dx (mf3 d u cd))):=fun b o z nb=>by rw[f6 nb];exact s8 _ _ (x7 b o z nb)
 generalize upd H8 m (.ins s dx (mf3 d u cd))=H9 at aK g9 k9 p9 n9 c9 q9 x9 |-;refine⟨_,rfl,hd,I,rfl,(g1.trans g9) _ _ ar,fun ll bh=>?_⟩;have a6:I.map (fun kv=>kV kv.1)=ns.map V.int:=by
  have:I.map (fun kv=>kV kv.1)=(I.map (·.1)).map kV:=by rw[BA];rfl
  rw[this,aW,BA];rfl
 rw[a6];obtain⟨a7,z5,J,aI⟩:=gs bh (.lst (ns.map V.int));rw[z5];have ai:=J _ _ aK;have fin:∀g:Int,(ns=[]->g=0)->(ns≠[]->g∈ns/\∀n∈ns,n<=g)->Q .non (upd (upd a7 m (.ins s dx (mf4 d u cd g))) m (.ins s dx (mf5 d u cd g))):=fun g h1 h2=>by
  obtain⟨_,_,_,_,l6⟩:=tu d u cd g;refine q G1 d u p ab q1 L cd pr bd us (mf5 d u cd g) fs zs g _ ?_ al (fun b o z nb=>by rw[f6 nb,f6 nb];exact J _ _ (x9 b o z nb)) fun b w=>?_
  . exact⟨g1,ap (ap (g9.trans J)),ay,a4,aU,bc,aT,bj,af,ao,hpr,am,⟨_,_,_,_,_,px.tup⟩,px.body,g8,afl d u cd g,l6,up aj (up aj (J _ _ k9)),up (AO af) (up (AO af) (J _ _ p9)),a5,hfl,au g8 (au ai (J.seqT q9)),up ag (up ag (J _ _ n9)),ba,bm,up aq (up aq (J _ _ c9)),h1,h2⟩
  . have fx:∀{H':Hp} {b:KA},jt m H H'->H' b=none->b≠m->H b=none:=fun {H' b} e z nb=>by
     cases h:H b with
     | none=>rfl
     | some o=>rw[e b o h nb] at z;cases z
    rcases w with rfl|rfl|rfl|rfl|rfl
    . exact fx x7 O aq
    . exact fx x4 (e5.free an) aj
    . exact fx x4 ae (AO af)
    . exact fx x4 S ag
    . exact aP
 refine⟨ll,ns,0,rfl,rfl,SqL.of aI,fun h0=>?_,fun M hM bg=>?_⟩
 . obtain⟨_,_,_,l6,_⟩:=tu d u cd 0;exact⟨_,rfl,m,s,dx,_,rfl,ai,T.cl,T.nG,(by lia),_,rfl,m,s,dx,_,rfl,g8,T.cl,T.nL,Ba l6 (by decide),fin 0 (fun _=>rfl) (fun z=>absurd h0 z)⟩
 . obtain⟨_,_,_,l6,_⟩:=tu d u cd M;exact⟨_,rfl,m,s,dx,_,rfl,ai,T.cl,T.nG,(by lia),_,rfl,m,s,dx,_,rfl,g8,T.cl,T.nL,Ba l6 (by decide),fin M (fun z=>by rw[z] at hM;cases hM) (fun _=>⟨hM,bg⟩)⟩
abbrev Cl:=Int×Int×Int
theorem uj(h:i8 x=true):Short x:=by grind [i8,Short]
theorem a49:∀{zs:List Str},(∀z∈zs,z∈ys)->(lv (vK ys f) zs).map kk=vK zs f
 | [],_=>rfl
 | z::zs,h=>by
  have a:=a49 (f:=f) fun y b=>h y (Al _ b);unfold lv vK at a |-;rw[As,As,As,a];have e:=zq (f:=f) (h z (Ag ..));unfold vK at e;rw[e];rfl
theorem lp:∀y∈([("set":Str),"read","write","new","free","first","second","nil","","is","not"]:List Str),y.length<=1000:=by decide
theorem no_nil:i8 ("nil":Str)=false/\i8 ("":Str)=false:=by decide
theorem tok0(xs:List Str):TOk xs [] []:=⟨⟨AH _,fun _ h=>(by cases h)⟩,⟨AH _,fun _ h=>(by cases h)⟩,fun _ h=>(by cases h),fun _ h=>(by cases h)⟩
theorem aep(h:DG ⟨xs,hs⟩ d)(j:y∈wrd d):y∈xs++[("nil":Str)]\/y="" := by
 have l:∀{x:Str},x∈xs->x∈xs++[("nil":Str)]:=fun h=>AD _ h;cases d with
 | plain q =>
  cases q with
  | row r =>
   obtain⟨e,rfl,i⟩:=h;rw[vq] at j;left;cases e<;>simp only[oi,Ah,Av,or_false] at j
   . rcases j with rfl|rfl
     . exact l i.1
     . exact i.2
   . rcases j with rfl|rfl
     . exact l i.1
     . exact l i.2.1
   . rcases j with rfl|rfl
     . exact l i.1
     . exact i.2.2
   . rcases j with rfl|rfl|rfl
     . exact l i.1
     . exact i.2.1
     . exact i.2.2
   . rw[j];exact l i
  | call x c vs =>
   obtain⟨o,n,_⟩:=h;rcases Ah.mp (show y∈x::vs from j) with rfl|z
   . exact o.elim .inr fun w=>.inl (l w)
   . exact .inl (n y z)
 | cond r a b =>
  obtain⟨f,x,z,rfl,_,m,hz⟩:=h;have g:y∈[x,z]:=j;simp only[Ah,Av,or_false] at g;rcases g with rfl|rfl
  . exact .inl (l m)
  . exact .inl hz
 | loop r F P a =>
  obtain⟨⟨f,x,z,rfl,_,m,hz⟩,rfl,rfl⟩:=h;have g:y∈[x,z]:=j;simp only[Ah,Av,or_false] at g;rcases g with rfl|rfl
  . exact .inl (l m)
  . exact .inl hz
theorem aed(hn:∀x∈xs,i8 x=true)(A:∀h∈hs,h.2.1<=8)(h:DG ⟨xs,hs⟩ d):DOk xs d:=by
 have j:∀{x:Str},x∈xs->Short x:=fun m=>uj (hn _ m);have l:∀{x:Str},x∈xs++[("nil":Str)]->Short x:=fun m=>(Aq.mp m).elim j fun z=>by rw[Ap.mp z];exact lp _ (by simp)
 have n:∀{r:List Str},lz ⟨xs,hs⟩ r->ROk r:=fun h=>by
  obtain⟨f,x,y,rfl,v,m,o⟩:=h;refine⟨rfl,fun z hz=>?_⟩;simp only[Ah,Av,or_false] at hz;rcases hz with rfl|rfl|rfl
  . rcases v with rfl|rfl
    . exact lp _ (by simp)
    . exact lp _ (by simp)
  . exact j m
  . exact l o
 have s:∀{f:Str},yq f->Short f:=fun h=>by
  rcases h with rfl|rfl<;>exact lp _ (by simp)
 cases d with
 | plain q =>
  cases q with
  | row r =>
   obtain⟨e,rfl,i⟩:=h;intro z hz;cases e<;>simp only[rowD,Ah,Av,or_false] at hz
   . rcases hz with rfl|rfl|rfl
     . exact lp _ (by simp)
     . exact j i.1
     . exact l i.2
   . rcases hz with rfl|rfl|rfl|rfl
     . exact lp _ (by simp)
     . exact j i.1
     . exact j i.2.1
     . exact s i.2.2
   . rcases hz with rfl|rfl|rfl|rfl
     . exact lp _ (by simp)
     . exact j i.1
     . exact s i.2.1
     . exact l i.2.2
   . rcases hz with rfl|rfl|rfl|rfl
     . exact lp _ (by simp)
     . exact j i.1
     . exact l i.2.1
     . exact l i.2.2
   . rcases hz with rfl|rfl
     . exact lp _ (by simp)
     . exact j i
  | call x c vs =>
   obtain⟨p,u,g,w,_⟩:=h;exact⟨p.elim (fun z=>by rw[z];exact lp _ (by simp)) j,A _ w,fun y o=>l (u y o)⟩
 | cond r a b=>exact n h
 | loop r F P a=>obtain⟨p,rfl,rfl⟩:=h;exact⟨n p,tok0 xs⟩
theorem a1p(h:PcOk xs hs p):allW (B 5) p=qk p:=by
 obtain⟨d,a,b,c⟩:=h.tl;unfold allW qk;rw[d,a,b,c];show p.ps++[p.res]++[]++[]++_=_;rw[Dw,Dw]
theorem a4l(h:PcOk xs hs p)(a:y∈qk p):y∈xs++[("nil":Str)]\/y="" := by
 unfold qk at a;rcases Aq.mp a with z|z
 . rcases Aq.mp z with w|w
   . exact .inl (AD _ (h.px y w))
   . rw[Ap.mp w];exact h.res.elim .inr fun z=>.inl (AD _ z)
 . obtain⟨d,hd,hw⟩:=Bu.mp z;exact aep (h.bd.ok _ d hd) hw
theorem a8g(h:PcOk xs hs p)(f:xs.length=6)(hn:∀x∈xs,i8 x=true)(b:∀h∈hs,h.2.1<=8):PrcOk (B 5) xs p:=by
 obtain⟨t1,t2,c,e⟩:=h.tl;refine⟨⟨by have:=h.pl;lia,fun y a=>uj (hn _ (h.px y a))⟩,h.res.elim (fun z=>by rw[z];exact lp _ (by simp)) (fun z=>uj (hn _ z)),by rw[t1,t2];exact tok0 xs,by rw[c,e];exact tok0 xs,fun d hd=>aed hn b (h.bd.ok _ d hd),Aw (h.bd.len _) (by decide),by lia,fun y a hi=>?_⟩;rw[a1p h] at a;rcases a4l h a with z|z
 . rcases Aq.mp z with w|w
   . exact w
   . rw[Ap.mp w,no_nil.1] at hi;cases hi
 . rw[z,no_nil.2] at hi;cases hi
theorem PcsOk.heads(h:PcsOk xs pcs):∀g∈pcs.map rq,g.2.1<=8:=fun g a=>by
 obtain⟨p,hp,rfl⟩:=AA.mp a;exact Aw (h.ok p hp).pl (by decide)
theorem ae2(hn:(pcs.map (·.name)).Nodup)(hp:p∈pcs):pcs[idxP pcs p.name]?=some p:=by
 unfold idxP;induction pcs with
 | nil=>cases hp
 | cons q pcs ih =>
  rw[As,Bc] at hn;rw[List.findIdx_cons];rcases Ah.mp hp with rfl|z
  . rw[decide_eq_true rfl];rfl
  . have ne:¬ q.name=p.name:=fun e=>hn.1 (by rw[e];exact Cm (f:=fun c:Prc=>c.name) z);rw[decide_eq_false ne];exact ih hn.2 z
theorem aa8(hn:∀x∈xs,i8 x=true)(hp:PcsOk xs pcs)(h:DG ⟨xs,pcs.map rq⟩ d):abt pcs d:=by
 have wd:∀{y:Str},y∈xs++[("nil":Str)]->Wd y:=fun h=>(Aq.mp h).imp (hn _) Ap.mp;have cd:∀{r:List Str},lz ⟨xs,pcs.map rq⟩ r->a5g r:=fun⟨f,x,y,m,_,l,n⟩=>⟨f,x,y,m,.inl (hn _ l),wd n⟩
 cases d with
 | plain q =>
  cases q with
  | row r =>
   obtain⟨e,rfl,i⟩:=h;cases e with
   | set x y=>exact .set x y (hn _ i.1) (wd i.2)
   | read x y f=>exact .read x y f (hn _ i.1) (hn _ i.2.1) i.2.2
   | write y f z=>exact .write y f z (hn _ i.1) i.2.1 (wd i.2.2)
   | new x y z=>exact .new x y z (hn _ i.1) (wd i.2.1) (wd i.2.2)
   | free y=>exact .free y (hn _ i)
  | call x c vs =>
   obtain⟨m,u,g,l,n,C,D⟩:=h;obtain⟨p,j,e⟩:=AA.mp l;obtain⟨o,v⟩:=Kg e;obtain⟨A,s⟩:=Kg v;refine⟨m.imp id (hn _),fun w hw=>wd (u w hw),p,by rw[<- o];exact ae2 hp.nn j,o,A.symm,?_⟩;rcases n with z|z
   . rw[z] at s;exact .inr ((hp.ok p j).res.elim (fun w=>absurd w (of_decide_eq_true s)) (hn _))
   . exact .inl z
 | cond r a b=>exact cd h
 | loop r F P a=>exact cd h.1
theorem ab5(hn:∀x∈xs,i8 x=true)(b:xs.length=6)(hp:PcsOk xs pcs)(hpd:X c=some (.dK ((byK (pcs.map (·.name)) a).map kk)))(hps:KI (PrcAt K X (B 5)) a pcs):Pg K X pcs c a xs :=
 ⟨hpd,hps,hp.nn,fun pc h=>⟨a8g (hp.ok pc h) b hn hp.heads,(hp.ok pc h).pn,fun d hd=>aa8 hn hp ((hp.ok pc h).bd.ok _ d hd)⟩⟩
theorem a8d(N:MNew K o s (B 5) G H m dx pcs pc j (vK zs F) c due ns w r n p h u nd cd pr bd q d fs ys g)(i:Same w X)(sX:Same X H)(out:∀b,b=m\/b=cd\/b=n\/b=p\/b=nd->X b=none)(l:pcs[j]?=some pc)(hc:KI (CellAt K H) c cs)(hz:∀y∈ys,y∈zs)(hl:zs.length<=6)(e:AtP pc.body due.1 due.2):
 MAt K o s X pcs m dx r n cd H d ⟨[⟨j,due.1,due.2,F,""⟩],cs,g,false⟩ [⟨p,h,pr,u,nd,bd,fs,ys,pc,⟨j,due.1,due.2,F,""⟩⟩]:=by
 obtain⟨pt,t1,t2,f1,p1,f2,p2,f,px⟩:=Paired.at2 N.hps N.hpr l;obtain⟨D,A,C,z,E,hb⟩:=N.hbd;have hnd:=N.hnd;rw[a49 hz] at hnd;have v:f=bd:=by
  have:=px.tup;rw[hb] at this;injection this with this;injection this with this;injection this with _ this;injection this with _ this;injection this with _ this;injection this with _ this;injection this with _ this;injection this with this _;injection this with this;exact this.symm
 subst v;refine⟨⟨sX,out _ (by simp),N.hfl,fun a ha=>?_,by simp,by simp⟩,rfl,trivial,out _ (by simp),out _ (by simp),N.hm,N.mf,N.lm,⟨c,N.hcd,hc⟩,by simpa using N.mp,by simpa using AO N.nc,by simp⟩;rw[Ap.mp ha];exact⟨out _ (by simp),out _ (by simp),N.hp,N.ff,N.lf,N.hq1,hnd,⟨_,_,_,i _ _ px.tup⟩,N.body.same i,e,Aw (AV N.zn hz) (by lia),N.zm,N.zn,l⟩
theorem MAt.out{frs:List Fr}(A:MAt K g p X pcs m i n e cd H j s frs)(h:b∈muM m cd e frs):X b=none/\∃o,H b=some o/\((∃C d f,o=.ins C d f)\/(∃kvs,o=.dK kvs)\/∃l,o=.lst l):=by
 rcases mem_mu.mp h with rfl|rfl|rfl|z|z
 . exact⟨A.xm,_,A.hm,.inl ⟨_,_,_,rfl⟩⟩
 . obtain⟨kvs,c,_⟩:=A.C;exact⟨A.xc,_,c,.inr (.inl ⟨_,rfl⟩)⟩
 . exact⟨A.S.xf,_,A.S.hfl,.inr (.inr ⟨_,rfl⟩)⟩
 . obtain⟨a,ha,rfl⟩:=AA.mp z;exact⟨(A.S.fr a ha).xp,_,(A.S.fr a ha).hp,.inl ⟨_,_,_,rfl⟩⟩
 . obtain⟨a,ha,rfl⟩:=AA.mp z;exact⟨(A.S.fr a ha).xn,_,(A.S.fr a ha).hnd,.inr (.inl ⟨_,rfl⟩)⟩
theorem MAt.other{frs:List Fr}(A:MAt K g i X pcs m F E j cd H D s frs)(n:MAt K g i X pcs m2 dm2 pd2 fl2 cd2 H c p a)(q:∀b∈muM m cd j frs,b∉muM m2 cd2 fl2 a)(sX:Same X H')(kp:KpM (muM m cd j frs) H H'):MAt K g i X pcs m2 dm2 pd2 fl2 cd2 H' c p a:=by
 refine n.keep sX fun b o h w=>kp b o h fun z=>?_;rcases w with w|⟨v,r,u⟩
 . exact q b z w
 . obtain⟨_,y,h',k⟩:=A.out z;rw[h] at h';rw[<- Au h'] at k;rcases k with⟨C,d,f,e⟩|⟨k,e⟩|⟨l,e⟩
   . exact v _ _ _ e
   . exact r _ e
   . exact u _ e
end K55
namespace L2
theorem a15(H:Hp):rm (fun c=>c=l) (rm N H)=rm (fun c=>N c\/c=l) H:=by grind [rm]
theorem Paired.choose(h:KI F l₁ l₂)(g:∀a b,F a b->∃c,G a c):∃d,KI G l₁ d:=by
 induction h with
 | nil=>exact⟨[],.nil⟩
 | cons h1 _ ih =>
  obtain⟨l,hl⟩:=ih;obtain⟨c,hc⟩:=g _ _ h1;exact⟨c::l,.cons hc hl⟩
end L2
namespace K55
open L2 Mir
noncomputable def Em(N:KA->Prop)(H H':Hp):Prop:=∀b o,H b=some o->H' b=some o\/(¬ N b/\(∃us,o=.lst us)/\∃t,H' b=some (.lst [.ref t])/\H' t=some (.tup [.str "free",.str "nobody"])/\H t=none)
theorem Em.of(e:Same H H'):Em N H H':=fun b o h=>.inl (e b o h)
theorem Em.free(m:Em N H H')(h:H' b=none):H b=none:=by
 cases z:H b with
 | none=>rfl
 | some o =>
  rcases m b o z with w|⟨_,_,t,w,_⟩<;>rw[h] at w<;>cases w
theorem Em.kept(m:Em N H H')(h:H b=some o)(hb:N b\/∀us,o≠.lst us):H' b=some o:=by
 rcases m b o h with w|⟨nb,⟨us,e⟩,_⟩
 . exact w
 . exact hb.elim (fun z=>absurd z nb) fun z=>absurd e (z us)
theorem Em.trans(m1:Em N H a)(m2:Em N a e):Em N H e:=fun b o h=>by
 rcases m1 b o h with z|⟨nb,ls,t,k1,k2,k3⟩
 . rcases m2 b o z with w|⟨nb,ls,t,k1,k2,k3⟩
   . exact .inl w
   . exact .inr ⟨nb,ls,t,k1,k2,m1.free k3⟩
 . rcases m2 b _ k1 with w|⟨_,_,t',f,c,d⟩
   . exact .inr ⟨nb,ls,t,w,m2.kept k2 (.inr fun _ z=>by cases z),k3⟩
   . exact .inr ⟨nb,ls,t',f,c,m1.free d⟩
theorem Em.nl(m:Em N H H')(h:(rm N H) b=some o)(d:∀us,o≠.lst us):(rm N H') b=some o:=by
 obtain⟨c,a⟩:=j4 h;rw[ib c];exact m.kept a (.inr d)
theorem Em.row(m:Em N H H')(h:RowAt K (rm N H) b r):RowAt K (rm N H') b r:=by
 rcases h with (h|⟨o,h⟩)|h
 . exact .inl (.inl (m.nl h fun _ z=>by cases z))
 . exact .inl (.inr ⟨o,m.nl h fun _ z=>by cases z⟩)
 . exact .inr h
theorem a3f:∀y∈[("free":Str),"nobody"],Ok y:=by
 have:∀y∈[("free":Str),"nobody"],(PyData.str y).canLay0=true:=by decide
 exact this
theorem Em.rows(m:Em N H H')(f:∀c,N c->H c≠none)(h:RowsAt K (rm N H) a F)(ok:∀r∈F,∀y∈r,Ok y)(l:F.length<=10):∃b,RowsAt K (rm N H') a b/\(∀r∈b,∀y∈r,Ok y)/\b.length<=10:=by
 obtain⟨as,g,e⟩:=h;obtain⟨n1,d⟩:=j4 g;rcases m _ _ d with z|⟨nb,_,t,k1,k2,k3⟩
 . exact⟨F,⟨as,by rw[ib n1];exact z,Paired.mapP e fun _ _ y=>m.row y⟩,ok,l⟩
 . refine⟨[["free","nobody"]],⟨[t],by rw[ib n1];exact k1,.cons (.inl (.inl (by rw[ib fun z=>f t z k3];exact k2))) .nil⟩,fun r hr=>?_,by decide⟩;rw[Ap.mp hr];exact a3f
theorem Em.pl(m:Em N H H')(h:PlAt (rm N H) t p):PlAt (rm N H') t p:=by
 cases p with
 | row r=>exact m.nl h fun _ z=>by cases z
 | call x c vs =>
  obtain⟨v,b,a⟩:=h;exact⟨v,m.nl b (fun _ z=>by cases z),m.nl a (fun _ z=>by cases z)⟩
theorem Em.deed(m:Em N H H')(C:∀c,N c->H c≠none)(u:∀l ds,L l ds->∃q,E l q)(h:DeedX K (rm N H) L t d):∃d',DeedX K (rm N H') E t d':=by
 have j:∀{us vs:List V},HO.tup us≠HO.lst vs:=fun z=>by cases z
 cases h with
 | plain p h1 h2=>exact⟨_,.plain p (m.pl h1) h2⟩
 | cond c i o r a b h hc okr hi ho =>
  obtain⟨w,e⟩:=u _ _ hi;obtain⟨G,v⟩:=u _ _ ho;exact⟨_,.cond c i o r w G (m.nl h fun _=>j) (m.nl hc fun _=>j) okr e v⟩
 | loop c td i fa pa r F P a h hc okr htd hF hP okF okP lF lP hi =>
  obtain⟨w,e⟩:=u _ _ hi;obtain⟨I,s,g,A⟩:=m.rows C hF okF lF;obtain⟨D,y,f,n⟩:=m.rows C hP okP lP;exact⟨_,.loop c td i fa pa r I D w (m.nl h fun _=>j) (m.nl hc fun _=>j) okr (m.nl htd fun _=>j) s y g f A n e⟩
theorem Em.with(m:Em N H H')(h:∀o,H l=some o->H' l=some o):Em (fun c=>N c\/c=l) H H':=by grind [Em]
theorem yr{N:KA->Prop}{H:Hp}(a:∀c,N c->H c≠none)(h:H l=some o):∀c,N c\/c=l->H c≠none:=by grind
theorem xa:∀{bs:List Nat}{N:KA->Prop}{H H':Hp}{l:KA}{ds:List Deed},(∀b∈bs,1<=b)->(∀c,N c->H c≠none)->Em N H H'->ListY K (rm N H) bs l ds->∃e,ListY K (rm N H') bs l e
 | [],_,_,_,_,_,_,_,_,h=>h.elim
 | b::bs,N,H,H',l,ds,hb,hN,m,h=>by
  obtain⟨ts,hl,hp,f⟩:=h;obtain⟨nl,a⟩:=j4 hl;rcases m l _ a with z|⟨nb,_,t,k1,k2,k3⟩
  . have j:Em (fun c=>N c\/c=l) H H':=m.with fun o y=>by rw[a] at y;cases y;exact z
    rw[a15] at hp;obtain⟨e,i⟩:=Paired.choose (G:=DeedX K (rm (fun c=>N c\/c=l) H') (a2u K bs (rm (fun c=>N c\/c=l) H'))) hp fun t d h=>j.deed (yr hN a) (fun l ds y=>xa (fun b g=>hb b (Al _ g)) (yr hN a) j y) h;exact⟨e,ts,by rw[ib nl];exact z,by rw[a15];exact i,f⟩
  . refine⟨[.plain (.row ["free","nobody"])],[t],by rw[ib nl];exact k1,.cons (.plain _ ?_ ⟨⟨"free",["nobody"],["name"],rfl,by decide,rfl⟩,a3f⟩) .nil,hb b Ag⟩;show (rm _ (rm N H')) t=_;rw[a15,ib (X:=fun c=>N c\/c=l) (yr hN a t · k3)];exact k2
abbrev sEmp:KN:=top 47
inductive spEmp(K:Ab)(bs:List Nat)(vs:List V)(H:Hp)(Q:VK)(E:XK):Prop
 | mk (N:KA->Prop)(l:KA)(ds:List Deed)(h0:vs=[.ref l])(hN:∀c,N c->H c≠none)(h1:ListY K (rm N H) bs l ds)(q:∀H',Em N H H'->Q .non H'):spEmp K bs vs H Q E
theorem ad5:FnOk P w K mg base CX0 1 f fd ["_law_deeds"] (spEmp K []) :=
 ⟨fun vs H Q E h=>by obtain⟨N,l,ds,_,_,a,_⟩:=h;exact a.elim,fun A outer s H args us vs Q E _ _ _ _ h=>by obtain⟨N,l,ds,_,_,a,_⟩:=h;exact a.elim⟩
theorem u8(M:∀b∈bs,1<=b)(ac:b<=900)(C:Con K mg w)(F:GF K "_law_emptied" sEmp)(GE:FC K mg w (n+1) "_law_emptied" (spEmp K bs)):FC K mg w (n+1+1) "_law_emptied" (spEmp K (b::bs)):=by
 refine F.ok C.gf 1 ["_law_deeds","_law_deed"] fun H vs Q E hr h nd=>?_;obtain⟨N,l,ds,rfl,hN,⟨ts,hl,hp,aa⟩,q⟩:=h;refine⟨_,gc (jv AN rfl (oq (K:=K) rfl (qv 0)) (jd 1 nd) (gc (ij (i6 ig (gx K (qv 1) dn) i7) (gi (ia (gr GE hr (gq (gx K (qv 1) dn) ad)))) iq)
  (gi (ij (QW.qt (a4p (i6 ig (gx K (qv 1) dn) i7) (a1x (i6 ig (gx K (qv 1) dn) i7)))) (gi (ia (gr GE hr (gq (gx K (qv 1) dn) ad)))) iq))))
  (gc (ia (o8 AF Hf Hg a1i (qv 0)))
  (gi (ia (jr (K:=K) rfl AF Bg Bh jo (qv 0) (og (ie (ie ad)) ad))))),?_⟩
 obtain⟨nl,g⟩:=j4 hl;rw[a15] at hp;have T:∀c,N c\/c=l->H c≠none:=yr hN g;generalize hXd:(fun c=>N c\/c=l)=X at hp;have T:∀c,X c->H c≠none:=fun c z=>T c (by rw[<- hXd] at z;exact z);have Xl:X l:=by rw[<- hXd];exact .inr rfl
 have O:("while":Str)≠"if" := by decide
 refine kq fun A1 R _ _=>?_;refine⟨_,rfl,l,rfl,⟨_,SqL.of g⟩,?_⟩;refine ld (xs:=ts.map V.ref) (fun i σ G=>∃S:Option V,σ=[some (.ref l),S]/\Em X H G) ⟨none,rfl,Em.of (Same.refl _)⟩ ?_ ?_ ?_
 . rintro i σ G hi ⟨S,rfl,m⟩;exact SqL.of (m.kept g (.inl Xl))
 . rintro i x σ G hx ⟨S,rfl,m⟩;rw[Am] at hx;obtain⟨t,ht,rfl⟩:=AZ.mp hx;obtain⟨d0,_,W⟩:=Paired.nth hp ht;obtain⟨d,hd⟩:=m.deed T (fun l ds y=>xa M T m y) W;have j:∀{G:Hp},Em X H G->∀c,X c->G c≠none:=fun {G} m c z y=>T c z (m.free y);dsimp only[gt];cases hd with
   | plain p U h2 =>
    obtain⟨w,vs,hw,n1,n2⟩:=uh U h2;have v:=rm_back _ _ hw;refine⟨_,rfl,t,_,0,_,rfl,rfl,SqT.of v,at0,rfl,_,rfl,iteS n1 ?_⟩;refine⟨_,rfl,t,_,0,_,rfl,rfl,SqT.of v,at0,rfl,_,rfl,iteS n1 ?_⟩;refine⟨_,rfl,t,_,0,_,rfl,rfl,SqT.of v,at0,rfl,_,rfl,iteS n2 ?_⟩;exact⟨_,rfl,m⟩
   | cond c i' o r a b' h hc okr hi' ho =>
    have h':=rm_back _ _ h;refine⟨_,rfl,t,_,0,_,rfl,rfl,SqT.of h',at0,rfl,_,rfl,iteT ?_⟩;refine⟨_,rfl,t,_,2,_,rfl,rfl,SqT.of h',rfl,.mk X i' a rfl (j m) hi' fun G1 m1=>?_⟩;have L:=m.trans m1;have U:=m1.kept h' (.inr fun _ z=>by cases z);obtain⟨b2,Z⟩:=xa M (j m) m1 ho;refine⟨_,rfl,t,_,0,_,rfl,rfl,SqT.of U,at0,rfl,_,rfl,iteT ?_⟩;exact⟨_,rfl,t,_,3,_,rfl,rfl,SqT.of U,rfl,.mk X o b2 rfl (j L) Z fun G2 m2=>⟨_,rfl,L.trans m2⟩⟩
   | loop c td i' fa pa r F' P' a h hc okr htd hF hP okF okP lF lP hi' =>
    have h':=rm_back _ _ h;refine⟨_,rfl,t,_,0,_,rfl,rfl,SqT.of h',at0,rfl,_,rfl,iteS O ?_⟩;refine⟨_,rfl,t,_,0,_,rfl,rfl,SqT.of h',at0,rfl,_,rfl,iteS O ?_⟩;refine⟨_,rfl,t,_,0,_,rfl,rfl,SqT.of h',at0,rfl,_,rfl,iteT ?_⟩;exact⟨_,rfl,t,_,3,_,rfl,rfl,SqT.of h',rfl,.mk X i' a rfl (j m) hi' fun G2 m2=>⟨_,rfl,m.trans m2⟩⟩
 rintro σ G ⟨S,rfl,m⟩;refine R _ _ ?_;clear R;have kl:=m.kept g (.inl Xl);refine ke (a:=n0 _) fun A2 I _ _=>?_;refine⟨_,rfl,.inl ⟨rfl,_,SqL.of kl⟩,l,_,rfl,rfl,kl,?_⟩;refine I [some (.ref l),S] _ ?_;clear I;refine⟨_,rfl,.inl ⟨rfl,_,SqL.of g8⟩,(szLn 2),fun J s=>?_⟩;have u:J≠l:=fun z=>by rw[z,g8] at s;cases s
 have nG:G J=none:=by rw[f6 u] at s;exact s
 refine⟨l,_,_,rfl,rfl,by rw[f6 (AO u)];exact g8,(by decide),q _ fun b o z=>?_⟩;by_cases e:b=l
 . rw[e] at z |-;rw[g] at z;cases z;exact .inr ⟨nl,⟨_,rfl⟩,J,g8,by rw[f6 u];exact g8,m.free nG⟩
 have Y:∀{x:KA} {o:HO},G x=some o->x≠l->(upd (upd (upd G l (.lst [])) J (.tup [.str "free",.str "nobody"])) l (.lst ([]++[.ref J]))) x=some o:=fun {x o} h nx=>by
  rw[f6 nx,f6 (gh h nG),f6 nx];exact h
 rcases m b o z with y|⟨nb,ls,t,k1,k2,k3⟩
 . exact .inl (Y y e)
 . refine .inr ⟨fun y=>nb (by rw[<- hXd];exact .inl y),ls,t,Y k1 e,Y k2 (fun y=>?_),k3⟩;rw[y,g] at k3;cases k3
abbrev sCop:KN:=top 46
inductive spCop(K:Ab)(bs:List Nat)(vs:List V)(H:Hp)(Q:VK)(E:XK):Prop
 | mk (X:KA->Prop)(l:KA)(ds:List Deed)(h0:vs=[.ref l])(hX:∀c,X c->H c≠none)(h1:ListX K (rm X H) bs l ds)(q:∀l' H',Same H H'->ListX K (rm X H') bs l' ds->Q (.ref l') H'):spCop K bs vs H Q E
theorem ad4:FnOk P w K mg base CX0 1 f fd ["_law_deeds"] (spCop K []) :=
 ⟨fun vs H Q E h=>by obtain⟨N,l,ds,_,_,a,_⟩:=h;exact a.elim,fun A outer s H args us vs Q E _ _ _ _ h=>by obtain⟨N,l,ds,_,_,a,_⟩:=h;exact a.elim⟩
theorem u6(am:b<=900)(C:Con K mg w)(F:GF K "_law_copied" sCop)(GE:FC K mg w (n+1) "_law_copied" (spCop K bs)):FC K mg w (n+1+1) "_law_copied" (spCop K (b::bs)):=by
 refine F.ok C.gf 1 ["_law_deeds","_law_found","_law_deed"] fun H vs Q E hr h nd=>?_;obtain⟨X0,l,ds,rfl,W,⟨ts,hl,hp,ab⟩,q⟩:=h;refine⟨_,gc (gu 1 nd (i9 ad))
  (gc (jv AN rfl (oq (K:=K) rfl (qv 0)) (jd 2 nd) (gc (ij (i6 ig (gx K (qv 2) dn) i7) (gi (gu 2 nd (j5 (ie (gq (gx K (qv 2) dn) (gw (gr GE hr (gq (gx K (qv 2) dn) ad)) (gw (gr GE hr (gq (gx K (qv 2) dn) ad)) ad))))))) (gi (ij (i6 ig (gx K (qv 2) dn) i7) (gi (gu 2 nd (j5 (ie (gq (gx K (qv 2) dn) (gq (gx K (qv 2) dn) (gw (gr GE hr (gq (gx K (qv 2) dn) ad)) ad))))))) iq)))
  (gi (ia (jr (K:=K) rfl AF Bg Bh jo (qv 1) (gj (qv 2) ad))))))
  (gi (gz (qv 1)))),?_⟩
 have Y:=rm_back _ _ hl;have aa:=Ay hp;have ah:("while":Str)≠"if" := by decide
 refine i5 fun A0 U _ _=>?_;refine⟨AH _,fun j v=>?_⟩;obtain⟨H1,s,s1,k1⟩:=gs v (.lst []);dsimp only[gt];rw[s];refine U [some (.ref l),some (.ref j),none] _ ?_;clear U;have ae:¬ X0 j:=fun z=>W j z v;obtain⟨X,u⟩:∃X:KA->Prop,∀c,X c↔X0 c\/c=j:=⟨_,fun _=>EU⟩
 have Xf:X j:=(u j).mpr (.inr rfl);have g0:∀{G:Hp},Same H G->Same (rm X0 H) (rm X G):=fun {G} e b o z=>by
  obtain⟨z1,L⟩:=j4 z;rw[ib fun y=>((u b).mp y).elim z1 (gh L v)];exact e _ _ L
 have hX:∀{G:Hp},Same H G->G j≠none->∀c,X c->G c≠none:=fun {G} e nf c z y=>by
  rcases (u c).mp z with z|z
  . exact W c z (e.free y)
  . rw[z] at y;exact nf y
 have nw:∀{G:Hp} {p:KA},Same H G->G j≠none->G p=none->¬ X p:=fun e nf hp z=>hX e nf _ z hp;refine kq fun A1 aj _ _=>?_;refine⟨_,rfl,l,rfl,⟨_,SqL.of (s1 _ _ Y)⟩,?_⟩;refine ld (xs:=ts.map V.ref) (fun i σ G=>∃(us:List KA) (L:Option V),σ=[some (.ref l),some (.ref j),L]/\Same H G/\G j=some (.lst (us.map V.ref))/\KI (DeedX K (rm X G) (ListX K (rm X G) bs)) us (ds.take i)) ⟨[],none,rfl,s1,k1,by rw[Da];exact .nil⟩ ?_ ?_ ?_
 . rintro i σ G hi ⟨us,L,rfl,e,_⟩;exact SqL.of (e _ _ Y)
 . rintro i x σ G hx ⟨us,L,rfl,e,kf,R⟩;rw[Am] at hx;obtain⟨t,ht,rfl⟩:=AZ.mp hx;obtain⟨d,ai,ag⟩:=Paired.nth hp ht;have hd:DeedX K (rm X G) (ListX K (rm X G) bs) t d:=ag.same (g0 e) fun _ _ y=>y.same (g0 e);have af:=Ay R;rw[AQ] at af;have al:i<ts.length:=(Az.mp ht).1;dsimp only[gt];refine m3 fun E2 T _ _=>?_;have fin:∀(J:Hp) (t':KA),Same G J->DeedX K (rm X J) (ListX K (rm X J) bs) t' d->E2.nx [some (.ref l),some (.ref j),some (.ref t')] J:=fun J t' N h'=>by
    refine T _ _ ?_;refine⟨_,rfl,.inl ⟨rfl,_,SqL.of (N _ _ kf)⟩,_,rfl,j,_,_,rfl,rfl,N _ _ kf,j9 (by rw[Ad];lia),us++[t'],_,rfl,fun b o z=>?_,by rw[g8,Ax];rfl,?_⟩
    . rw[f6 (gh z v)];exact N _ _ (e _ _ z)
    . rw[rk Xf,tq ai];exact Paired.snocP (Paired.mapP R fun _ _ z=>z.same (ip N) fun _ _ y=>y.same (ip N)) h'
   clear T;have fn:∀{J:Hp},Same G J->J j≠none:=fun N z=>by rw[N _ _ kf] at z;cases z
   cases hd with
   | plain p h1 h2 =>
    obtain⟨w,vs,hw,n1,n2⟩:=uh h1 h2;have Z:=rm_back _ _ hw;refine⟨_,rfl,t,_,0,_,rfl,rfl,SqT.of Z,at0,rfl,_,rfl,iteS n1 ?_⟩;refine⟨_,rfl,t,_,0,_,rfl,rfl,SqT.of Z,at0,rfl,_,rfl,iteS n2 ?_⟩;exact fin G t (Same.refl _) (.plain p h1 h2)
   | cond c i' o r a b' h hc okr hi' ho =>
    have h':=rm_back _ _ h;refine⟨_,rfl,t,_,0,_,rfl,rfl,SqT.of h',at0,rfl,_,rfl,iteT ?_⟩;refine⟨_,rfl,t,_,1,_,rfl,rfl,SqT.of h',rfl,_,rfl,t,_,2,_,rfl,rfl,SqT.of h',rfl,.mk X i' a rfl (hX e (fn (Same.refl _))) hi' fun l1 G1 s O=>?_⟩;refine⟨_,rfl,t,_,3,_,rfl,rfl,SqT.of (s _ _ h'),rfl,.mk X o b' rfl (hX (e.trans s) (fn s)) (ho.same (ip s)) fun l2 G2 e2 ac=>?_⟩;refine⟨(szLn 4),fun nt m=>?_⟩;obtain⟨G3,e3,S,k3⟩:=gs m (.tup [.str "if",.ref c,.ref l1,.ref l2]);dsimp only[gt];rw[e3];have M:=s.trans e2;have g:=M.trans S;exact fin G3 nt g (.cond c l1 l2 r a b' (by rw[ib (nw (e.trans M) (fn M) m)];exact k3) (ip g _ _ hc) okr (O.same (ip (e2.trans S))) (ac.same (ip S)))
   | loop c td i' fa pa r F' P' a h hc okr htd hF hP okF okP lF lP hi' =>
    have h':=rm_back _ _ h;refine⟨_,rfl,t,_,0,_,rfl,rfl,SqT.of h',at0,rfl,_,rfl,iteS ah ?_⟩;refine⟨_,rfl,t,_,0,_,rfl,rfl,SqT.of h',at0,rfl,_,rfl,iteT ?_⟩;refine⟨_,rfl,t,_,1,_,rfl,rfl,SqT.of h',rfl,_,rfl,t,_,2,_,rfl,rfl,SqT.of h',rfl,_,rfl,t,_,3,_,rfl,rfl,SqT.of h',rfl,.mk X i' a rfl (hX e (fn (Same.refl _))) hi' fun l1 G1 s O=>?_⟩;refine⟨(szLn 4),fun nt m=>?_⟩;obtain⟨G3,e3,S,k3⟩:=gs m (.tup [.str "while",.ref c,.ref td,.ref l1]);dsimp only[gt];rw[e3];have g:=s.trans S;exact fin G3 nt g (.loop c td l1 fa pa r F' P' a (by rw[ib (nw (e.trans s) (fn s) m)];exact k3) (ip g _ _ hc) okr (ip g _ _ htd) (hF.same (ip g)) (hP.same (ip g)) okF okP lF lP (O.same (ip S)))
 rintro σ G ⟨us,L,rfl,e,kf,R⟩;refine aj _ _ ⟨_,rfl,?_⟩;rw[Ad,aa,BK] at R;have I:Same (rm X G) (rm X0 G):=zc fun c z=>(u c).mpr (.inl z);exact q j G e ⟨us,by rw[ib ae];exact kf,Paired.mapP R fun _ _ z=>z.same I fun _ _ y=>y.same I,by rw[Ay R,<- aa];exact ab⟩
end K55
namespace L2
open PyProof.Rows
noncomputable def ad3:V->List V->Hp->VK->Prop:=fun x vs H Q=>∃a kvs,x=.ref a/\vs=[]/\H a=some (.dK kvs)/\Q .non (upd H a (.dK []))
theorem sw:MtR X "dict.clear" ad3:=by
 intro b s σ H x vs v us Q I c d h;obtain⟨a,kvs,rfl,rfl,ha,q⟩:=h;cases c;cases d;exact adq I ha fun s' e=>⟨.non,_,e,rfl,q⟩
end L2
namespace K55
open L2 Mir
abbrev abp:KN:=top 48
abbrev a6r:KN:=top 49
theorem WhereAt.same(h:WhereAt K H v w)(e:Same H H'):WhereAt K H' v w:=by
 cases w with
 | none=>exact h
 | some x =>
  obtain⟨nm,pp,k⟩:=x;obtain⟨r,pt,g1,b,a⟩:=h;exact⟨r,pt,g1,e _ _ b,e.seqT a⟩
structure Told(K:Ab)(H H':Hp)(pcs:List Prc)(s:PM)(a:Fr)(rl:KA)(v:V)(d1 c1 c2 d2:KA)(kv:List (Key×V)):Prop where
 e:Same H H'
 hr:H' rl=some (.lst [.str (o7 pcs s),v,.ref d1,.ref c1,.ref c2,.ref d2])
 hw:WhereAt K H' v (vr pcs s)
 k1:H' d1=some (.dK (vK a.ys a.f.F))
 k2:H' c1=some (.dK kv)
 k3:H' c2=some (.dK kv)
 k4:H' d2=some (.dK (vK a.ys a.f.F))
 n:[d1,c1,c2,d2].Nodup
 o:∀b∈[d1,c1,c2,d2],H b=none
 cs:KI (CellAt K H') kv s.cs
inductive spTell(K:Ab)(CM CF:KA)(vs:List V)(H:Hp)(Q:VK)(E:XK):Prop
 | mk (X:Hp)(m dm pd fl cd:KA)(fm:List (Str×V))(pcs:List Prc)(s:PM)(a:Fr)(r:List Fr)(i:Int)(h0:vs=[.ref m,.int i])(A:MAt K CM CF X pcs m dm pd fl cd H fm s (a::r))(q:∀rl v d1 c1 c2 d2 kv H',Told K H H' pcs s a rl v d1 c1 c2 d2 kv->Q (.ref rl) H'):spTell K CM CF vs H Q E
theorem ack(C:Con K mg w)(T:TxM K mg CM fI)(F:GF K "_law_told" abp)(GW:MC K mg w CM 5 "word" (spWord K CM CF))(GX:MC K mg w CM 6 "where" (spWhere K CM CF))(GL:MC K mg w CM 1 "held" (a7o CM CF))(GK:MC K mg w CM 1 "heap" (a82 CM)):FC K mg w 7 "_law_told" (spTell K CM CF):=by
 refine F.ok C.gf 2 ["_law_machine","_law_way","_law_found","_law_cells","_law_values_here","_law_where"] fun H vs Q E hr h nd=>?_;obtain⟨X,m,y,W,R,cd,u,pcs,s,a,r,i,rfl,B,q⟩:=h;have D:=hr.mono (j:=1) (by lia);have ao:=hr.mono (j:=5) (by lia);refine⟨_,gc (ij (i6 ig (gp ji (qv 1) dn) dn) (gc (gu 2 nd (i9 (gw (jq (qv 0) T.cl GW ao) (gw (jq (qv 0) T.cl GX hr) (gw (jq (qv 0) T.cl GL D) (gw (jq (qv 0) T.cl GK D) ad))))))
  (gi (gz (gp ky (qv 2) (i9 (gw (jq (qv 0) T.cl GK D) (gw (jq (qv 0) T.cl GL D) ad))))))) iq)
  (gc (gu 3 nd (jq (qv 0) T.cl GK D))
  (gc (gu 4 nd (jq (qv 0) T.cl GL D))
  (gc (gu 5 nd (jq (qv 0) T.cl GX hr))
  (gi (gz (i9 (gw (jq (qv 0) T.cl GW ao) (gj (qv 5) (gj (qv 4) (gj (qv 3) (gw (jq (qv 0) T.cl GK D) (gw (jq (qv 0) T.cl GL D) ad)))))))))))),?_⟩
 have mt:=B.mf.meth;have Sa:=B.S.fr a Ag;obtain⟨kv,c1,c2⟩:=B.C;have aq:∀{H':Hp},Same H H'->KI (CellAt K H') kv s.cs:=fun e=>Paired.mapP c2 fun _ _ z=>z.keep fun b o z _ _ _=>e _ _ z;refine m3 fun A1 al aF _=>?_;refine⟨_,rfl,_,_,rfl,rfl,(show (0:Int)<2 by decide),rfl,_,rfl,iteB (fun _=>?_) (fun _=>?_)⟩
 . clear al;refine i5 fun A2 M _ _=>?_;refine⟨_,rfl,m,y,u,rfl,B.hm,mt _ (by decide),B.word fun H1 e1=>?_⟩;refine⟨_,rfl,m,y,u,rfl,e1 _ _ B.hm,mt _ (by decide),.mk X m y W R cd u pcs s a r rfl (B.same e1) fun v H2 e2 w2=>?_⟩;have g:=e1.trans e2;refine⟨_,rfl,m,y,u,rfl,g _ _ B.hm,mt _ (by decide),m,W,R,cd,_,_,_,_,_,_,_,_,_,rfl,(B.same g).ma,g _ _ Sa.hnd,fun x1 J=>?_⟩;obtain⟨H3,aw,Z,k3⟩:=gs J (.dK (vK a.ys a.f.F));rw[aw];have c:=g.trans Z;refine⟨_,rfl,m,y,u,rfl,c _ _ B.hm,mt _ (by decide),m,y,W,R,cd,u,_,_,_,rfl,c _ _ B.hm,B.mf,c _ _ c1,fun Y I=>?_⟩;obtain⟨H4,aD,O,k4⟩:=gs I (.dK kv);rw[aD];have G:=c.trans O;refine⟨(szLn 4),fun p1 aG=>?_⟩;obtain⟨H5,ax,s5,k5⟩:=gs aG (.lst [.str (o7 pcs s),v,.ref x1,.ref Y]);dsimp only[gt];rw[ax];have N:=G.trans s5;refine M [rQ m,iQ i,rQ p1,nQ,nQ,nQ] _ ?_;clear M;refine⟨_,rfl,_,rfl,m,y,u,rfl,N _ _ B.hm,mt _ (by decide),m,y,W,R,cd,u,_,_,_,rfl,N _ _ B.hm,B.mf,N _ _ c1,fun x3 l=>?_⟩;obtain⟨H6,aa,U,k6⟩:=gs l (.dK kv);rw[aa];have p:=N.trans U;refine⟨_,rfl,m,y,u,rfl,p _ _ B.hm,mt _ (by decide),m,W,R,cd,_,_,_,_,_,_,_,_,_,rfl,(B.same p).ma,p _ _ Sa.hnd,fun x4 d=>?_⟩;obtain⟨H7,ak,s7,k7⟩:=gs d (.dK (vK a.ys a.f.F));rw[ak];refine⟨(szLn 2),fun p2 aA=>?_⟩;obtain⟨H8,ay,s8,k8⟩:=gs aA (.lst [.ref x3,.ref x4]);rw[ay];have aE:=s7.trans s8;have aB:=U.trans aE;refine⟨p1,p2,_,_,rfl,rfl,aB _ _ k5,k8,(show 4+2<=KF by decide),fun rl ae=>?_⟩;obtain⟨H9,aj,s9,k9⟩:=gs ae (.lst ([.str (o7 pcs s),v,.ref x1,.ref Y]++[.ref x3,.ref x4]));rw[aj];have ar:=s8.trans s9;have L:=s7.trans ar;have ai:=U.trans L;have av:=s5.trans ai;have n:=O.trans av;refine aF _ _ (q rl v x1 Y x3 x4 kv H9 ⟨c.trans n,k9,w2.same (Z.trans n),n _ _ k3,av _ _ k4,L _ _ k6,ar _ _ k7,?_,?_,aq (c.trans n)⟩)
   . have ac:=gh k3 I;have ah:=gh ((O.trans s5) _ _ k3) l;have am:=gh (((O.trans s5).trans U) _ _ k3) d;have ab:=gh (s5 _ _ k4) l;have af:=gh ((s5.trans U) _ _ k4) d;have ag:=gh k6 d;simp[ac,ah,am,ab,af,ag]
   . intro b hb;simp only[Ah,Av,or_false] at hb;rcases hb with rfl|rfl|rfl|rfl
     . exact g.free J
     . exact c.free I
     . exact N.free l
     . exact p.free d
 . refine al _ _ ?_;clear al;refine i5 fun A2 M _ _=>?_;refine⟨_,rfl,m,y,u,rfl,B.hm,mt _ (by decide),m,y,W,R,cd,u,_,_,_,rfl,B.hm,B.mf,c1,fun Y I=>?_⟩;obtain⟨H1,az,s1,k1⟩:=gs I (.dK kv);dsimp only[gt];rw[az];refine M [rQ m,iQ i,nQ,rQ Y,nQ,nQ] _ ?_;clear M;refine i5 fun A3 an _ _=>?_;refine⟨_,rfl,m,y,u,rfl,s1 _ _ B.hm,mt _ (by decide),m,W,R,cd,_,_,_,_,_,_,_,_,_,rfl,(B.same s1).ma,s1 _ _ Sa.hnd,fun x1 J=>?_⟩;obtain⟨H2,aC,s2,k2⟩:=gs J (.dK (vK a.ys a.f.F));dsimp only[gt];rw[aC];have g:=s1.trans s2;refine an [rQ m,iQ i,nQ,rQ Y,rQ x1,nQ] _ ?_;clear an;refine i5 fun A4 ap _ _=>?_;refine⟨_,rfl,m,y,u,rfl,g _ _ B.hm,mt _ (by decide),.mk X m y W R cd u pcs s a r rfl (B.same g) fun v H3 Z w3=>?_⟩;have c:=g.trans Z;refine ap [some (.ref m),some (.int i),none,some (.ref Y),some (.ref x1),some v] _ ?_;clear ap;refine⟨_,rfl,m,y,u,rfl,c _ _ B.hm,mt _ (by decide),(B.same c).word fun H4 O=>?_⟩;have G:=c.trans O;refine⟨_,rfl,_,rfl,_,rfl,_,rfl,m,y,u,rfl,G _ _ B.hm,mt _ (by decide),m,y,W,R,cd,u,_,_,_,rfl,G _ _ B.hm,B.mf,G _ _ c1,fun x3 l=>?_⟩;obtain⟨H6,aa,U,k6⟩:=gs l (.dK kv);rw[aa];have p:=G.trans U;refine⟨_,rfl,m,y,u,rfl,p _ _ B.hm,mt _ (by decide),m,W,R,cd,_,_,_,_,_,_,_,_,_,rfl,(B.same p).ma,p _ _ Sa.hnd,fun x4 d=>?_⟩;obtain⟨H7,ak,s7,k7⟩:=gs d (.dK (vK a.ys a.f.F));rw[ak];refine⟨(szLn 6),fun rl ae=>?_⟩;obtain⟨H9,aj,s9,k9⟩:=gs ae (.lst [.str (o7 pcs s),v,.ref x1,.ref Y,.ref x3,.ref x4]);rw[aj];have L:=s7.trans s9;have ai:=U.trans L;have n:=O.trans ai;have au:=Z.trans n;refine q rl v x1 Y x3 x4 kv H9 ⟨c.trans n,k9,w3.same n,au _ _ k2,(s2.trans au) _ _ k1,L _ _ k6,s9 _ _ k7,?_,?_,aq (c.trans n)⟩
   . have ac:=(gh k1 J).symm;have ah:=gh ((Z.trans O) _ _ k2) l;have am:=gh (((Z.trans O).trans U) _ _ k2) d;have ab:=gh (((s2.trans Z).trans O) _ _ k1) l;have af:=gh ((((s2.trans Z).trans O).trans U) _ _ k1) d;have ag:=gh k6 d;simp[ac,ah,am,ab,af,ag]
   . intro b hb;simp only[Ah,Av,or_false] at hb;rcases hb with rfl|rfl|rfl|rfl
     . exact s1.free J
     . exact I
     . exact G.free l
     . exact p.free d
theorem putC_keys:(putC cs i v).map (·.1)=if i∈cs.map (·.1) then cs.map (·.1) else cs.map (·.1)++[i]:=by
 unfold putC;have e:(cs.any fun c=>decide (c.1=i))=decide (i∈cs.map (·.1)):=by
  induction cs with
  | nil=>rfl
  | cons c cs ih =>
   rw[Ds,ih,As];by_cases z:c.1=i
   . simp[z]
   . simp[z,AO z]
 rw[e];by_cases z:i∈cs.map (·.1)
 . rw[if_pos (decide_eq_true z),if_pos z,BA];refine BZ fun c _=>?_;show (if c.1=i then _ else _:Int×Int×Int).1=_;split<;>rfl
 . rw[if_neg (by rw[decide_eq_false z];exact Ak),if_neg z,Ax];rfl
theorem a29:(putC cs i v).length<=cs.length+1:=by grind [putC]
theorem q8(pcs:List Prc):∀(n:Nat) (l:List PF),(js pcs n l).length<=l.length
 | 0,l=>by unfold js;exact Aj _
 | n+1,[]=>by unfold js;exact Aj _
 | n+1,[a]=>by unfold js;exact Aj _
 | n+1,a::b::r=>by
  unfold js;split
  . have:=q8 pcs n (zj pcs a b::r);simp only[AB] at this |-
    lia
  . exact Aj _
theorem a7r(r:List Str)(F:Str->Int)(cs:List Cl)(g:Int):(jy r F cs g).2.1.length<=cs.length+1:=by
 unfold jy;split
 . exact Bs _
 split
 . exact Bs _
 split
 . exact a29
 split
 . exact a29
 . exact Aw (BP _ _) (Bs _)
theorem a20(pcs:List Prc)(s:PM):(jn pcs s).frs.length<=s.frs.length+1/\(jn pcs s).cs.length<=s.cs.length+1:=by
 unfold jn;split
 . exact⟨Bs _,Bs _⟩
 split
 . exact⟨Bs _,Bs _⟩
 rename_i f r hs;split
 . exact⟨Bs _,Bs _⟩
 rename_i d _;split
 . exact⟨Bs _,Bs _⟩
 rw[hs];cases d with
 | plain q =>
  cases q with
  | row w=>exact⟨Aw (q8 pcs _ _) (by simp only[AB];lia),a7r _ _ _ _⟩
  | call x c ws=>exact⟨Aw (q8 pcs _ _) (by simp only[AB];lia),Bs _⟩
 | cond=>exact⟨Aw (q8 pcs _ _) (by simp only[AB];lia),Bs _⟩
 | loop=>exact⟨Aw (q8 pcs _ _) (by simp only[AB];lia),Bs _⟩
theorem a5o(h:KI (CellAt K H) kvs cs):kvs.map (·.1)=(cs.map (·.1)).map Sum.inl:=by
 induction h with
 | nil=>rfl
 | cons h1 _ ih=>rw[As,As,As,ih,h1.1]
theorem a3h:∀{xs:List Str},valV (vK xs f) k=some v->∃y∈xs,k=Sum.inr y/\v=.int (f y)
 | [],h=>by cases h
 | x::xs,h=>by
  unfold valV vK at h;rw[As,BJ] at h;by_cases e:(Sum.inr x:Key)=k
  . rw[decide_eq_true e] at h;exact⟨x,Ag ..,e.symm,(Au h).symm⟩
  . rw[decide_eq_false e] at h;obtain⟨y,c,b,a⟩:=a3h (f:=f) (xs:=xs) (k:=k) (v:=v) h;exact⟨y,Al _ c,b,a⟩
theorem acv(h:∀y,y∈zs↔y∈ys)(n1:zs.Nodup)(n2:ys.Nodup):(vK zs F).length=(vK ys F).length/\∀k v,valV (vK zs F) k=some v->∃b,valV (vK ys F) k=some b/\AlV K H v b:=by
 refine⟨?_,fun k v d=>?_⟩
 . unfold vK;rw[Ad,Ad];exact Nat.le_antisymm (AV n1 fun y a=>(h y).mp a) (AV n2 fun y a=>(h y).mpr a)
 . obtain⟨x,c,rfl,rfl⟩:=a3h d;exact⟨_,zq ((h x).mp c),.inl ⟨rfl,rfl⟩⟩
variable{K:Ab}{H:Hp} in
theorem a4f:∀ns:List Int,DpAll K H (ns.map V.int) (ns.map PyData.int)
 | []=>.nil
 | n::ns=>.cons (.int n) (a4f ns)
theorem a2t:∀ns:List Int,C7 (ns.map PyData.int)=true/\CT (ns.map PyData.int)<=1
 | []=>by simp[C7,CT]
 | n::ns=>by
  obtain⟨a,b⟩:=a2t ns;simp[C7,DO,CT,Fi,a]
  lia
theorem a9a(hw:∀nm pp k,w=some (nm,pp,k)->Ok nm):∃d:PyData,EqOk d/\∀(K:Ab) (H:Hp) (v:V),WhereAt K H v w->Dp K H v d:=by
 cases w with
 | none=>exact⟨.none,⟨rfl,by simp[Fi]⟩,fun K H v h=>by rw[show v=.non from h];exact .non⟩
 | some w =>
  obtain⟨nm,pp,k⟩:=w;refine⟨.tuple [.str nm,.tuple ((flat pp++[(k:Int)]).map PyData.int)],?_,fun K H v h=>?_⟩
  . obtain⟨c,e⟩:=a2t (flat pp++[(k:Int)]);have okn:(PyData.str nm).canLay0=true:=hw nm pp k rfl;refine⟨by simp only[DO] at okn;simp only[DO,C7,okn,c];rfl,?_⟩;simp only[Fi,CT]
    lia
  . obtain⟨r,pt,rfl,b,a⟩:=h;exact .tup (SqT.of b) (.cons (.str nm) (.cons (.tup a (a4f _)) .nil))
theorem MAt.cons{K:Ab}{b g:KA}{X:Hp}{pcs:List Prc}{H:Hp}{m c e f cd:KA}{d:List (Str×V)}{s:PM}{frs:List Fr}(A:MAt K b g X pcs m c e f cd H d s frs):∃a r,frs=a::r:=by
 cases frs with
 | nil=>exact absurd rfl A.ne
 | cons a r=>exact⟨a,r,rfl⟩
theorem MAt.flen{frs:List Fr}(A:MAt K a f X pcs m b d e cd H c s frs):frs.length=s.frs.length:=by rw[<- A.ef,Ad]
theorem aci(d:KI (CellAt K H) kvs cs)(f:KI (CellAt K H) a cs):kvs.length=a.length/\∀k v,valV kvs k=some v->∃g,valV a k=some g/\AlV K H v g:=by
 refine⟨by rw[Ay d,Ay f],fun k v b=>?_⟩;have hm:=ace b;rw[a5o d] at hm;obtain⟨i,_,rfl⟩:=AA.mp hm;cases e:getC cs i with
 | none=>rw[(lu i d).2 e] at b;cases b
 | some c =>
  obtain⟨r,g1,m⟩:=(lu i d).1 c e;rw[g1] at b;cases b;obtain⟨o,h,n⟩:=(lu i f).1 c e;have l:SqT K H r ([c.1,c.2].map V.int):=m;have j:SqT K H o ([c.1,c.2].map V.int):=n;exact⟨_,h,.inr ⟨a14 [c.1,c.2],a4m l,a4m j,ints_dn.ok (by decide)⟩⟩
noncomputable def goM(pcs:List Prc):Nat->PM->Nat×PM
 | 0,s=>(0,s)
 | n+1,s=>if o7 pcs s="on" then ((goM pcs n (jn pcs s)).1+1,(goM pcs n (jn pcs s)).2) else (0,s)
abbrev sMGo:KN:=jz (top 29) 5
variable{X:Hp}{pcs:List Prc} in
inductive spGo(K:Ab)(CM CF:KA)(vs:List V)(H:Hp)(Q:VK)(E:XK):Prop
 | mk (X:Hp)(m dm pd fl cd:KA)(fm:List (Str×V))(pcs:List Prc)(s:PM)(frs:List Fr)(prs:List KA)(xs:List Str)(n:Nat)(h0:vs=[.ref m,.int (n:Int)])(A:MAt K CM CF X pcs m dm pd fl cd H fm s frs)(P:Pg K X pcs pd prs xs)(hlen:frs.length+n<=800)(hc:s.cs.length+n<=800)(q:∀H' fm' frs',MAt K CM CF X pcs m dm pd fl cd H' fm' (goM pcs n s).2 frs'->KpM (muM m cd fl frs) H H'->(∀b∈muM m cd fl frs',b∈muM m cd fl frs\/H b=none)->Q (.int ((goM pcs n s).1:Int)) H'):spGo K CM CF vs H Q E
theorem afy(ag:5<=n)(C:Con K mg w)(T:TxM K mg p fI)(F:GM K p "go" "Machine.go" sMGo)(GW:MC K mg w p 5 "word" (spWord K p L))(GS:MC K mg w p n "step" (spStep K p L)):MC K mg w p (n+1) "go" (spGo K p L):=by
 refine F.ok id 2 ["self","most","done"] fun H vs Q E hr h nd=>?_;obtain⟨X,m,D,Y,l,cd,fm,pcs,s,frs,N,xs,k,rfl,B,PG,ac,hc,q⟩:=h;have U:=hr.mono (j:=5) (by lia);refine⟨_,gc (gu 2 nd dn)
  (gc (ou AN (QW.qt (q3 (i6 qo (qv 2) (qv 1)) (ny (i6 ig (jq (qv 0) T.cl GW U) i7)))) (gc (ia (jq (qv 0) T.cl GS hr))
  (gi (gu 2 nd (gp ir (qv 2) dn)))))
  (gi (gz (qv 2)))),?_⟩
 refine i5 fun A1 J _ _=>?_;refine J [some (.ref m),some (.int (k:Int)),some (.int 0)] _ ?_;clear J;refine ke (a:=ui _ _) fun A2 M _ _=>?_;refine⟨fun j σ G=>∃(i:Nat) (s':PM) (d:List (Str×V)) (c:List Fr),i+j=k/\σ=[some (.ref m),some (.int (k:Int)),some (.int (i:Int))]/\MAt K p L X pcs m D Y l cd G d s' c/\KpM (muM m cd l frs) H G/\(∀b∈muM m cd l c,b∈muM m cd l frs\/H b=none)/\goM pcs k s=(i+(goM pcs j s').1,(goM pcs j s').2)/\c.length<=frs.length+i/\s'.cs.length<=s.cs.length+i,⟨k,0,s,fm,frs,JY _,rfl,B,KpM.of (Same.refl _),fun b h=>.inl h,by rw[JY],Aj _,Aj _⟩,?_⟩;rintro j σ G ⟨i,s',d,c,af,rfl,u,kp,fr,g,l1,l2⟩;obtain⟨a',r',rfl⟩:=u.cons;have fin:∀v,Same G v->goM pcs j s'=(0,s')->A2.nx [some (.ref m),some (.int (k:Int)),some (.int (i:Int))] v:=fun v r hg=>by
  refine M _ _ ⟨_,rfl,?_⟩;rw[hg,JW] at g;have:=q v d (a'::r') (by rw[g];exact u.same r) (fun b o h n=>r _ _ (kp b o h n)) fr;rw[g] at this;exact this
 refine⟨_,rfl,_,rfl,_,_,rfl,rfl,_,rfl,iteB (fun O=>?_) (fun O=>?_)⟩
 . have ah:i<k:=by have:=of_decide_eq_true O;lia
   obtain⟨e,rfl⟩:∃e,j=e+1:=⟨j-1,by lia⟩
   refine⟨_,rfl,m,D,d,rfl,u.hm,u.mf.meth _ (by decide),u.word fun v r=>?_⟩;refine⟨rfl,_,rfl,iteB (fun W=>?_) (fun W=>?_)⟩
   . have on:o7 pcs s'="on" := V.str.inj (of_decide_eq_true W);have Z:=u.same r;refine⟨fun σ G=>∃(i:Nat) (s':PM) (d:List (Str×V)) (c:List Fr),i+e=k/\σ=[some (.ref m),some (.int (k:Int)),some (.int (i:Int))]/\MAt K p L X pcs m D Y l cd G d s' c/\KpM (muM m cd l frs) H G/\(∀b∈muM m cd l c,b∈muM m cd l frs\/H b=none)/\goM pcs k s=(i+(goM pcs e s').1,(goM pcs e s').2)/\c.length<=frs.length+i/\s'.cs.length<=s.cs.length+i,fun σ' G' hN=>⟨e,Ce _,hN⟩,?_⟩;have fl1:=u.flen;obtain⟨k1,k2⟩:=a20 pcs s';refine⟨_,rfl,m,D,d,rfl,Z.hm,Z.mf.meth _ (by decide),.mk X m D Y l cd d pcs s' _ N xs rfl Z PG (by lia) (by lia) fun G2 aa I B2 R ab=>?_⟩;have fl2:=B2.flen;refine⟨_,rfl,_,_,rfl,rfl,i+1,_,aa,I,by lia,?_,B2,fun b o h n=>R b o (r _ _ (kp b o h n)) (fun z=>(fr b z).elim n (fun z=>by rw[h] at z;cases z)),fun b z=>?_,?_,by lia,by lia⟩
     . show[_,_,_]=_;rw[Int.natCast_succ]
     . rcases ab b z with y|y
       . exact fr b y
       . by_cases n:b∈muM m cd l frs
         . exact .inl n
         . refine .inr ?_;cases hb:H b with
           | none=>rfl
           | some o=>rw[r _ _ (kp b o hb n)] at y;cases y
     . have S:goM pcs (e+1) s'=((goM pcs e (jn pcs s')).1+1,(goM pcs e (jn pcs s')).2):=by
        show (if _ then _ else _)=_;rw[if_pos on]
       rw[g,S];show (i+((goM pcs e (jn pcs s')).1+1),_)=_;rw[show i+((goM pcs e (jn pcs s')).1+1)=i+1+(goM pcs e (jn pcs s')).1 by lia]
   . refine fin v r ?_;unfold goM;rw[if_neg fun z=>of_decide_eq_false W (congrArg V.str z)]
 . refine fin G (Same.refl _) ?_;have:j=0:=by have:=of_decide_eq_false O;lia
   rw[this];rfl
inductive spSpoil(vs:List V)(H:Hp)(Q:VK)(E:XK):Prop
 | mk (rl d1 c1 c2 d2:KA)(v0 v:V)(kv1 kv2 kv3 kv4:List (Key×V))(h0:vs=[.ref rl])(hr:H rl=some (.lst [v0,v,.ref d1,.ref c1,.ref c2,.ref d2]))(k1:H d1=some (.dK kv1))(k2:H c1=some (.dK kv2))(k3:H c2=some (.dK kv3))(k4:H d2=some (.dK kv4))(l1:kv1.length<=900)(l3:kv3.length<=900)(n:[d1,c1,c2,d2].Nodup)(q:∀H',KpM [d1,c1,c2,d2] H H'->Q .non H'):spSpoil vs H Q E
theorem a9u(C:Con K mg w)(F:GF K "_law_spoil" a6r):FC K mg w 1 "_law_spoil" spSpoil:=by
 refine F.ok C.gf 1 ["_law_told_here"] fun H vs Q E hr h nd=>?_;obtain⟨c,e,p,L,d2,v0,v,G,Y,y,ab,rfl,a,k1,k2,k3,k4,l1,l3,n,q⟩:=h;have m:=l0 hr;refine⟨_,gc (km m (gy K (qv 0) dn) i7 dn)
  (gc (ia (o8 BQ C9 Dr sw (gy K (qv 0) dn)))
  (gc (km m (gy K (qv 0) dn) dn (j5 (i0 (i0 ad))))
  (gi (ia (o8 BQ C9 Dr sw (gy K (qv 0) dn)))))),?_⟩
 simp only[Bc,Ah,Av,or_false,not_or,not_false_eq_true,Ft,and_true] at n;obtain⟨⟨g,u,S⟩,⟨s,O⟩,R⟩:=n;have nl:∀{d:KA} {kv:List (Key×V)},H d=some (.dK kv)->c≠d:=fun h z=>by rw[z,h] at a;cases a
 refine⟨_,rfl,c,_,2,_,rfl,rfl,SqL.of a,rfl,e,_,rfl,DPut.k (k:=Sum.inr "nobody") k1 (j9 (by lia)),?_⟩;have r1:=a;generalize putK G (Sum.inr "nobody") (V.int 7)=j;obtain⟨r,U⟩:∃r,upd H e (.dK j)=r:=⟨_,rfl⟩
 have p1:∀{b:KA} {o:HO},H b=some o->b≠e->r b=some o:=fun h nb=>by rw[<- U,f6 nb];exact h
 rw[U];refine⟨_,rfl,c,_,3,_,rfl,rfl,SqL.of (p1 a (nl k1)),rfl,.inr (.inr (.inl ⟨rfl,.inl ⟨_,p1 k2 (AO g)⟩⟩)),p,_,rfl,rfl,p1 k2 (AO g),?_⟩;obtain⟨M,T⟩:∃M,upd r p (.dK [])=M:=⟨_,rfl⟩
 have p2:∀{b:KA} {o:HO},H b=some o->b≠e->b≠p->M b=some o:=fun h nb nc=>by rw[<- T,f6 nc];exact p1 h nb
 rw[T];refine⟨(szLn 2),fun tt I=>?_⟩;obtain⟨X,e3,D,aa⟩:=gs I (.tup [V.int 0,V.int 0]);rw[e3];have r3:X c=_:=D _ _ (p2 a (nl k1) (nl k2));have N:=D _ _ (p2 k3 (AO u) (AO s));refine⟨_,rfl,c,_,4,_,rfl,rfl,SqL.of r3,rfl,L,_,rfl,DPut.k (k:=Sum.inl 1) N (j9 (by lia)),?_⟩;generalize putK y (Sum.inl 1) (V.ref tt)=l;obtain⟨J,W⟩:∃J,upd X L (.dK l)=J:=⟨_,rfl⟩
 have p4:∀{b:KA} {o:HO},H b=some o->b≠e->b≠p->b≠L->J b=some o:=fun h nb nc nd=>by rw[<- W,f6 nd];exact D _ _ (p2 h nb nc)
 rw[W];have i:=p4 k4 (AO S) (AO O) (AO R);refine⟨_,rfl,c,_,5,_,rfl,rfl,SqL.of (p4 a (nl k1) (nl k2) (nl k3)),rfl,.inr (.inr (.inl ⟨rfl,.inl ⟨_,i⟩⟩)),d2,_,rfl,rfl,i,q _ fun b o h nb=>?_⟩;simp only[Ah,Av,or_false,not_or] at nb;obtain⟨b1,b2,b3,b4⟩:=nb;rw[f6 b4];exact p4 h b1 b2 b3
end K55
namespace L2
open PyProof.Rows PySem.SeqAt
open AutoSeq1 (wpAny_loadPart')
open MeetsSeq MeetsSeq2 MeetsSeq3
theorem aau(p q:KA)(us vs:Array KB)(m1 m2:Nat)(h g:Option KA)(l r:Array (Option KB))(hz:us.size=vs.size)(c:Nat):
 ∀i:Nat,us.size-i=c->MeetsIn prog w (Builtin.«list.__eq__.loop» ⟨[.ref p,.ref q,Ko i,Ko 2],[]⟩)
  (fun A R s=>s.heap.get? p=some {cls:=.type "list",dict:=h,data:=.seq us m1,slots:=l}/\s.heap.get? q=some {cls:=.type "list",dict:=g,data:=.seq vs m2,slots:=r}/\
   (∀j (y:j<us.size) (v:j<vs.size),EqP prog w A.in1 s us[j] vs[j])/\R (.ok (.ret (.bool true))) s):=by
 induction c with
 | zero =>
  intro i hi A R st a;obtain⟨m,u,n,f,o⟩:=st;obtain⟨b,d,same,fin⟩:=a
  wp_walk using Bl b,Bl d
  have n1:us[((i:Nat):Int).toNat]?=none:=by
   simp
   lia
  have n2:vs[((i:Nat):Int).toNat]?=none:=by
   simp
   lia
  rw[n1,n2]
  wp_walk using Bl b,Bl d
  show R (.ok (.ret (.bool (us.size==vs.size)))) _;have e:(us.size==vs.size)=true:=by rw[hz];simp
  rw[e];exact fin
 | succ c ih =>
  intro i hi A R st a;obtain⟨m,u,n,f,o⟩:=st;obtain⟨b,d,same,fin⟩:=a
  wp_walk using Bl b,Bl d
  have l1:i<us.size:=by lia
  have l2:i<vs.size:=by lia
  have n1:us[((i:Nat):Int).toNat]?=some us[i]:=by simp[l1]
  have n2:vs[((i:Nat):Int).toNat]?=some vs[i]:=by simp[l2]
  have up:((i:Int)+1)=((i+1:Nat):Int):=by lia
  rw[n1,n2];refine Aa (same i l1 l2 _ _ ?_)
  wp_walk
  rw[up];refine⟨BC plain_eq_loop _,Bw entry_eq_loop ?_⟩;rw[AY plain_eq_loop _];exact ih (i+1) (by lia) A R _ ⟨b,d,same,fin⟩
theorem aaj(p q:KA)(us vs:Array KB)(m1 m2:Nat)(b g:Option KA)(d c:Array (Option KB))(hz:us.size=vs.size):MeetsIn prog w (Builtin.«list.__eq__» ⟨[.ref p,.ref q],[]⟩)
 (fun A R s=>s.heap.get? p=some {cls:=.type "list",dict:=b,data:=.seq us m1,slots:=d}/\s.heap.get? q=some {cls:=.type "list",dict:=g,data:=.seq vs m2,slots:=c}/\
  (∀j (n:j<us.size) (i:j<vs.size),EqP prog w A.in1 s us[j] vs[j])/\R (.ok (.ret (.bool true))) s):=by
 intro A R st a;obtain⟨m,l,o,h,r⟩:=st;obtain⟨f,e,same,fin⟩:=a;have sub:=Hz;have ns:¬ (us.size != vs.size)=true:=by rw[hz];simp
 wp_walk using Bl f,Bl e
 refine⟨BC plain_eq_loop _,Bw entry_eq_loop ?_⟩;rw[AY plain_eq_loop _];exact aau p q us vs m1 m2 b g d c hz _ 0 rfl A R _ ⟨f,e,same,fin⟩
noncomputable def AlikeW(K:Ab)(H:Hp)(v v':V):Prop:=(v=v'/\a52 v=true)\/(∃p q kvs kws,v=.ref p/\v'=.ref q/\p≠q/\H p=some (.dK kvs)/\H q=some (.dK kws)/\kvs.length=kws.length/\∀k x,valV kvs k=some x->∃x',valV kws k=some x'/\AlV K H x x')\/∃d,Dp K H v d/\Dp K H v' d/\EqOk d
theorem AlikeW.eqP(I:Inv X G σ H s)(h:AlikeW X.K H v F)(r:RelV v u)(l:RelV F J)(U:A.units+30<cLine):EqP X.prog X.w A s u J:=by
 rcases h with⟨rfl,hs⟩|⟨p,q,kvs,M,rfl,rfl,n,hp,hq,m,hs⟩|⟨d,c,i,ok⟩
 . exact fun E Q k=>a1u hs r l X.prog X.w E Q k
 . cases r;cases l;intro E Q k;unfold eqBool;refine AU (wpAny_ite_split (fun z=>?_) (fun _=>Aa ?_))
   . have O:=eq_of_beq z;cases O;exact absurd rfl n
   . obtain⟨z,R,D,f,e⟩:=oy I.hok (.inl hp);obtain⟨_,T,C,g,j⟩:=oy I.hok (.inl hq);have hl:D.length=C.length:=by rw[<- f.length,<- g.length];exact m
     refine PySem.W.keq_eq (r:=true) R T e j (by lia) (fun _=>by
      refine a1v D fun p hp=>?_;have N:=xr (k:=p.1) (v:=p.2) (a58 e) hp;have a:=f.val p.1;have b:=g.val p.1;rw[N] at a;cases hv:valV kvs p.1 with
      | none=>rw[hv] at a;exact a.elim
      | some v =>
       rw[hv] at a;obtain⟨F,o,L⟩:=hs _ _ hv;rw[o] at b;cases hy:valueAt C p.1 with
       | none=>rw[hy] at b;exact b.elim
       | some y =>
        rw[hy] at b;refine⟨y,rfl,?_⟩;rcases L with⟨c,rfl⟩|⟨d,c,i,ok⟩
        . exact a1u c a b
        . obtain⟨as,S⟩:=Dp.reads I c a;obtain⟨bs,P⟩:=Dp.reads I i b;have:=Jz d d A.in1 s p.2 y as bs S P ok.1 ok.1 (by have:=ok.2;have:A.in1.units=A.units+1:=rfl;rw[Gx];lia);rw[JM d ok.1] at this;exact this) ?_
     rw[hl];simp only[beq_self_eq_true,Bool.and_true];exact BN k
 . obtain⟨as,f⟩:=Dp.reads I c r;obtain⟨bs,g⟩:=Dp.reads I i l;have:=Jz d d A s u J as bs f g (ok.1) (ok.1) (by have:=ok.2;rw[Gx];lia);rw[JM d ok.1] at this;exact fun E Q k=>this X.prog X.w E Q k
theorem afi(R:X.A.units+32<cLine):OpR X (KL .NotEq) (fun x y H Q=>∃a b xs ys,x=.ref a/\y=.ref b/\H a=some (.lst xs)/\H b=some (.lst ys)/\KI (AlikeW X.K H) xs ys/\Q (.bl false) H):=by
 intro c s σ H x y v u Q I M O h;obtain⟨a,b,xs,ys,rfl,rfl,ha,hb,hp,q⟩:=h;cases M;cases O;obtain⟨_,us,n1,J,l1,p⟩:=I.lstM ha;obtain⟨_,vs,n2,N,l2,o⟩:=I.lstM hb;have G:=Ay hp;have t1:s.TypeIs (.ref a) "list" := ⟨_,p,rfl⟩
 have t2:s.TypeIs (.ref b) "list" := ⟨_,o,rfl⟩
 refine FI (op:=.NotEq) t1 t2 Ip (DL Ip t1 PySem.F.entry_list_ne (PySem.F.args_list_ne_2 _ _) (aag a b us.toArray vs.toArray n1 n2 none none #[] #[] (by rw[Ao,Ao];lia)) ⟨p,o,fun j C n=>?_,?_⟩) (by lia)
 . rw[Ao] at C n;have g1:us[j]?=some us[j]:=Af C;have L:vs[j]?=some vs[j]:=Af n;have r:xs[j]?=some (xs[j]'(by lia)):=Af _;have E:ys[j]?=some (ys[j]'(by lia)):=Af _;obtain⟨S,D,k1⟩:=J.get r;obtain⟨P,w,k2⟩:=N.get E;rw[g1] at D;rw[L] at w;cases D;cases w;have d:AlikeW X.K H (xs[j]'(by lia)) (ys[j]'(by lia)):=by
    have key:∀{l m:List V} {i:Nat} {a b:V},KI (AlikeW X.K H) l m->l[i]?=some a->m[i]?=some b->AlikeW X.K H a b:=by
     intro l m i a b g;induction g generalizing i with
     | nil=>intro z;simp at z
     | cons hh tt ih =>
      intro f e;cases i with
      | zero=>simp at f e;subst f e;exact hh
      | succ i=>exact ih (by simpa using f) (by simpa using e)
    exact key hp r E
   have:=d.eqP (A:=X.A.in1) I k1 k2 (show X.A.in1.units+30<cLine by show X.A.units+1+30<cLine;lia);simpa using this
 . exact (show Value.bool false≠Value.notImplemented/\EP X c σ Q (.bool false) s from⟨(fun z=>nomatch z),⟨.bl false,H,I,rfl,q⟩⟩)
theorem aeq(R:X.A.units+32<cLine):OpR X (KL .Eq) (fun x y H Q=>∃a b xs ys,x=.ref a/\y=.ref b/\H a=some (.lst xs)/\H b=some (.lst ys)/\KI (AlikeW X.K H) xs ys/\Q (.bl true) H):=by
 intro c s σ H x y v u Q I M O h;obtain⟨a,b,xs,ys,rfl,rfl,ha,hb,hp,q⟩:=h;cases M;cases O;obtain⟨_,us,n1,J,l1,p⟩:=I.lstM ha;obtain⟨_,vs,n2,N,l2,o⟩:=I.lstM hb;have G:=Ay hp;have t1:s.TypeIs (.ref a) "list" := ⟨_,p,rfl⟩
 have t2:s.TypeIs (.ref b) "list" := ⟨_,o,rfl⟩
 refine FI (op:=.Eq) t1 t2 Iq (DL Iq t1 PySem.F.entry_list_eq (PySem.F.args_list_eq_2 _ _) (aaj a b us.toArray vs.toArray n1 n2 none none #[] #[] (by rw[Ao,Ao];lia)) ⟨p,o,fun j C n=>?_,?_⟩) (by lia)
 . rw[Ao] at C n;have g1:us[j]?=some us[j]:=Af C;have L:vs[j]?=some vs[j]:=Af n;have r:xs[j]?=some (xs[j]'(by lia)):=Af _;have E:ys[j]?=some (ys[j]'(by lia)):=Af _;obtain⟨S,D,k1⟩:=J.get r;obtain⟨P,w,k2⟩:=N.get E;rw[g1] at D;rw[L] at w;cases D;cases w;have d:AlikeW X.K H (xs[j]'(by lia)) (ys[j]'(by lia)):=by
    have key:∀{l m:List V} {i:Nat} {a b:V},KI (AlikeW X.K H) l m->l[i]?=some a->m[i]?=some b->AlikeW X.K H a b:=by
     intro l m i a b g;induction g generalizing i with
     | nil=>intro z;simp at z
     | cons hh tt ih =>
      intro f e;cases i with
      | zero=>simp at f e;subst f e;exact hh
      | succ i=>exact ih (by simpa using f) (by simpa using e)
    exact key hp r E
   have:=d.eqP (A:=X.A.in1) I k1 k2 (show X.A.in1.units+30<cLine by show X.A.units+1+30<cLine;lia);simpa using this
 . exact (show Value.bool true≠Value.notImplemented/\EP X c σ Q (.bool true) s from⟨(fun z=>nomatch z),⟨.bl true,H,I,rfl,q⟩⟩)
end L2
namespace K55
open L2 Mir
theorem MNew.same(N:MNew K f i bs G H m dx pcs pc j kvs c due ns n h o p d l nd cd pr bd b a fs ys g)(e:Same H H'):MNew K f i bs G H' m dx pcs pc j kvs c due ns n h o p d l nd cd pr bd b a fs ys g :=
 ⟨N.g1,N.gH.trans e,N.n1,N.n2,N.n3,N.n4,N.n5,N.nc,N.mp,N.hps,N.hpr,N.hpd,N.hbd,N.body,e _ _ N.hm,N.mf,N.lm,e _ _ N.hfl,e _ _ N.hp,N.ff,N.lf,e.seqT N.hq1,e _ _ N.hnd,N.zn,N.zm,e _ _ N.hcd,N.g0,N.gm⟩
theorem aaq(h:CellsU H hp):∃cs:List Cl,KI (CellAt K H) (hK hp) cs/\cs.map (·.1)=hp.map (·.1)/\∀c∈cs,∃p∈hp,H p.2=some (.tup [.int c.2.1,.int c.2.2]):=by
 induction hp with
 | nil=>exact⟨[],.nil,rfl,fun _ h=>by cases h⟩
 | cons p hp ih =>
  obtain⟨cs,f,b,d⟩:=ih fun q hq=>h q (Al _ hq);obtain⟨u,v,a⟩:=h p Ag;refine⟨(p.1,u,v)::cs,.cons ⟨rfl,p.2,rfl,SqT.of a⟩ f,by rw[As,As,b],fun c hc=>?_⟩;rcases Ah.mp hc with rfl|z
  . exact⟨p,Ag,a⟩
  . obtain⟨q,hq,e⟩:=d c z;exact⟨q,Al _ hq,e⟩
theorem a8z(hn:∀x∈xs,i8 x=true)(hok:PcsOk xs pcs):∀nm pp k,vr pcs s=some (nm,pp,k)->Ok nm:=fun nm pp k h=>by
 unfold vr at h;split at h
 . cases h
 split at h
 . cases h
 . rename_i f _ _;have e:=Au h;have a:((pcs[f.i]?).map (·.name)).getD ("":Str)=nm:=congrArg Prod.fst e;rw[<- a];cases z:pcs[f.i]? with
   | none=>exact jw ("":Str) (by simp)
   | some p=>exact qp (hn _ (hok.ok p (AE z)).nm)
structure TC where
 m1:KA
 dm1:KA
 pd1:KA
 fl1:KA
 cd1:KA
 m2:KA
 dm2:KA
 pd2:KA
 fl2:KA
 cd2:KA
noncomputable def NoD(G:Hp)(D:KA->Prop):Prop:=∀b,D b->∀o,G b=some o->∃kv,o=HO.dK kv
section
theorem NoD.get(h:NoD G D)(hb:G b=some o)(a:∀kv,o≠.dK kv):(rm D G) b=some o:=by
 rw[ib fun z=>by obtain⟨kv,e⟩:=h b z o hb;exact a kv e];exact hb
theorem NoD.tup(h:NoD G D)(hb:G b=some (.tup us)):(rm D G) b=some (.tup us):=h.get hb fun _ z=>by cases z
theorem NoD.row(h:NoD G D)(z:RowAt K G b r):RowAt K (rm D G) b r:=by
 rcases z with (z|⟨o,z⟩)|z
 . exact .inl (.inl (h.tup z))
 . exact .inl (.inr ⟨o,h.get z fun _ y=>by cases y⟩)
 . exact .inr z
theorem NoD.rows(h:NoD G D)(z:RowsAt K G b F):RowsAt K (rm D G) b F:=by
 obtain⟨as,c,a⟩:=z;exact⟨as,h.get c (fun _ y=>by cases y),Paired.mapP a fun _ _ y=>h.row y⟩
theorem NoD.deed(h:NoD G D)(e:∀l ds,L l ds->f l ds)(z:DeedX K G L t d):DeedX K (rm D G) f t d:=by
 cases z with
 | plain p h1 h2 =>
  refine .plain p ?_ h2;cases p with
  | row r=>exact h.tup h1
  | call x c vs=>obtain⟨v,g1,g⟩:=h1;exact⟨v,h.tup g1,h.tup g⟩
 | cond c i o r a b z hc okr hi ho=>exact .cond c i o r a b (h.tup z) (h.tup hc) okr (e _ _ hi) (e _ _ ho)
 | loop c td i fa pa r F P a z hc okr htd hF hP okF okP lF lP hi=>exact .loop c td i fa pa r F P a (h.tup z) (h.tup hc) okr (h.tup htd) (h.rows hF) (h.rows hP) okF okP lF lP (e _ _ hi)
variable{K:Ab}{G:Hp}{D:KA->Prop} in
theorem NoD.list(h:NoD G D):∀{bs:List Nat}{l:KA}{ds:List Deed},ListX K G bs l ds->ListX K (rm D G) bs l ds
 | [],_,_,z=>z.elim
 | b::bs,l,ds,z=>by
  obtain⟨ts,d,a,c⟩:=z;exact⟨ts,h.get d (fun _ y=>by cases y),Paired.mapP a fun _ _ y=>h.deed (fun _ _ w=>NoD.list h w) y,c⟩
theorem NoD.prc(h:NoD G D)(z:PrcAt K G bs t p):PrcAt K (rm D G) bs t p:=by
 obtain⟨pt,t1,t2,f1,p1,f2,p2,bd,x⟩:=z;exact⟨pt,t1,t2,f1,p1,f2,p2,bd,h.tup x.tup,h.tup x.pt,h.tup x.t1,h.tup x.t2,h.rows x.f1,h.rows x.p1,h.rows x.f2,h.rows x.p2,h.list x.body,x.okn,x.okr,x.okp,x.ok1,x.ok2,x.l1,x.l2⟩
theorem wv(h:G b=none):(rm D G) b=none:=by grind [rm]
theorem MNew.noD(N:MNew K i l bs r H m dx pcs pc j kvs d due ns G f n p e q nd cd pr bd c a fs ys g)(h:NoD G D)(hpd:¬ D f):MNew K i l bs (fun _=>none) H m dx pcs pc j kvs d due ns (rm D G) f n p e q nd cd pr bd c a fs ys g:=by
 obtain⟨w,u,v,s,y,hb⟩:=N.hbd;exact⟨(fun b o z=>by cases z),rm_back.trans N.gH,wv N.n1,wv N.n2,wv N.n3,wv N.n4,wv N.n5,N.nc,N.mp,Paired.mapP N.hps fun _ _ z=>h.prc z,N.hpr,by rw[ib hpd];exact N.hpd,⟨_,_,_,_,_,h.tup hb⟩,h.list N.body,N.hm,N.mf,N.lm,N.hfl,N.hp,N.ff,N.lf,N.hq1,N.hnd,N.zn,N.zm,N.hcd,N.g0,N.gm⟩
end
inductive Tz(K:Ab)(CM CF:KA)(X:Hp)(pcs:List Prc)(c:TC)(Old:KA->Prop)(s:PM)(n:Nat)(H:Hp):Prop
 | mk (fm1 fm2:List (Str×V))(a1 a2:Fr)(r1 r2:List Fr)(A1:MAt K CM CF X pcs c.m1 c.dm1 c.pd1 c.fl1 c.cd1 H fm1 s (a1::r1))(A2:MAt K CM CF X pcs c.m2 c.dm2 c.pd2 c.fl2 c.cd2 H fm2 s (a2::r2))(dj:∀b∈muM c.m1 c.cd1 c.fl1 (a1::r1),b∉muM c.m2 c.cd2 c.fl2 (a2::r2))(o1:∀b∈muM c.m1 c.cd1 c.fl1 (a1::r1),¬ Old b)(o2:∀b∈muM c.m2 c.cd2 c.fl2 (a2::r2),¬ Old b)(al:∀b,Old b->H b≠none)(l1:s.frs.length<=n+1)(l2:s.cs.length<=n+6)
noncomputable def TC.swap(c:TC):TC:=⟨c.m2,c.dm2,c.pd2,c.fl2,c.cd2,c.m1,c.dm1,c.pd1,c.fl1,c.cd1⟩
theorem Tz.turn(T:Tz K l v X pcs c e s n H):Tz K l v X pcs c.swap e s n H:=by
 obtain⟨d,a,r,u,g,q,f,j,o,p,m,i,l1,l2⟩:=T;exact⟨a,d,u,r,q,g,j,f,fun b h z=>o b z h,m,p,i,l1,l2⟩
theorem Tz.keep(T:Tz K q A X pcs c a s n H)(sX:Same X H')(e:∀b o,H b=some o->(¬ a b\/((∀C d f,o≠.ins C d f)/\(∀kvs,o≠.dK kvs)/\∀l,o≠.lst l))->H' b=some o)(i:∀b,a b->H' b≠none):Tz K q A X pcs c a s n H':=by
 obtain⟨g,j,z,E,r,y,D,u,v,m,p,F,l1,l2⟩:=T;exact⟨g,j,z,E,r,y,D.keep sX fun b o h w=>e b o h (w.imp (m b) id),u.keep sX fun b o h w=>e b o h (w.imp (p b) id),v,m,p,i,l1,l2⟩
theorem Tz.same(T:Tz K j v X pcs c f s n H)(e:Same H H'):Tz K j v X pcs c f s n H':=by
 obtain⟨d,a,r,u,i,q,g,l,o,p,m,h,l1,l2⟩:=T;exact⟨d,a,r,u,i,q,g.same e,l.same e,o,p,m,fun b z y=>h b z (e.free y),l1,l2⟩
theorem Tz.more(T:Tz K p C X pcs c i s n H)(e:Same H H')(hl:H l=none)(f:H' l=some o):Tz K p C X pcs c (fun b=>i b\/b=l) s n H':=by
 obtain⟨d,g,A,E,q,w,m,j,u,v,D,r,l1,l2⟩:=T;refine⟨d,g,A,E,q,w,m.same e,j.same e,u,fun b h z=>?_,fun b h z=>?_,fun b z y=>?_,l1,l2⟩
 . rcases z with z|z
   . exact v b h z
   . obtain⟨_,o,a,_⟩:=m.out h;rw[z,hl] at a;cases a
 . rcases z with z|z
   . exact D b h z
   . obtain⟨_,o,a,_⟩:=j.out h;rw[z,hl] at a;cases a
 . rcases z with z|z
   . exact r b z (e.free y)
   . rw[z,f] at y;cases y
theorem Tz.less(T:Tz K m w X pcs c f s n H)(h:∀b,e b->f b):Tz K m w X pcs c e s n H:=by
 obtain⟨d,a,u,v,i,r,g,l,p,q,o,j,l1,l2⟩:=T;exact⟨d,a,u,v,i,r,g,l,p,fun b z y=>q b z (h b y),fun b z y=>o b z (h b y),fun b z=>j b (h b z),l1,l2⟩
theorem Tz.one(T:Tz K e r X pcs c f s n H):∃a,H c.m1=some (.ins e c.dm1 a)/\∀x∈mj,a.lookup x=none:=by
 obtain⟨a,d,p,q,h,o,b,i,l,m,j,g,l1,l2⟩:=T;exact⟨a,b.hm,b.mf.meth⟩
theorem Tz.both(T:Tz K G O X pcs c a s n H)(P1:Pg K X pcs c.pd1 l xs)(P2:Pg K X pcs c.pd2 p xs)(hn:n<=100)(q:∀g,(∃f,g c.m2=some (.ins G c.dm2 f)/\∀x∈mj,f.lookup x=none)->(∀b o,a b->H b=some o->g b=some o)->(∀I E',(∀i,Tz K G O X pcs c a (jn pcs s) (n+1) i->(∀b o,a b->H b=some o->i b=some o)->I .non i)->spStep K G O [.ref c.m2] g I E')->Q .non g):spStep K G O [.ref c.m1] H Q E:=by
 obtain⟨J,f,a1,a2,r1,r2,P,U,dj,o1,o2,R,l1,l2⟩:=T;have f1:=P.flen;have f2:=U.flen;obtain⟨k1,k2⟩:=a20 pcs s;refine .mk X c.m1 c.dm1 c.pd1 c.fl1 c.cd1 J pcs s _ l xs rfl P P1 (by lia) (by lia) fun g D d Z u v=>?_;have F:=P.other U dj Z.S.sX u;have w:∀b∈muM c.m1 c.cd1 c.fl1 d,b∉muM c.m2 c.cd2 c.fl2 (a2::r2):=fun b hb j=>by
  rcases v b hb with z|z
  . exact dj b z j
  . obtain⟨_,o,m,_⟩:=U.out j;rw[z] at m;cases m
 have Y:∀b o,a b->H b=some o->g b=some o:=fun b o z h=>u b o h fun y=>o1 b y z;refine q g ⟨f,F.hm,F.mf.meth⟩ Y fun I E' q'=>?_;refine .mk X c.m2 c.dm2 c.pd2 c.fl2 c.cd2 f pcs s _ p xs rfl F P2 (by lia) (by lia) fun i r e M A C=>?_;have C1:=F.other Z (fun b h1 j=>w b j h1) M.S.sX A;have aa:∀b∈muM c.m1 c.cd1 c.fl1 d,b∉muM c.m2 c.cd2 c.fl2 e:=fun b hb j=>by
  rcases C b j with z|z
  . exact w b hb z
  . obtain⟨_,o,m,_⟩:=Z.out hb;rw[z] at m;cases m
 have w2:∀b o,a b->H b=some o->i b=some o:=fun b o z h=>A b o (Y b o z h) fun y=>o2 b y z;have L:∀b,a b->i b≠none:=fun b z y=>by
  cases h:H b with
  | none=>exact R b z h
  | some o=>rw[w2 b o z h] at y;cases y
 have n1:∀b∈muM c.m1 c.cd1 c.fl1 d,¬ a b:=fun b hb z=>by
  rcases v b hb with y|y
  . exact o1 b y z
  . exact R b z y
 have n2:∀b∈muM c.m2 c.cd2 c.fl2 e,¬ a b:=fun b hb z=>by
  rcases C b hb with y|y
  . exact o2 b y z
  . cases h:H b with
    | none=>exact R b z h
    | some o=>rw[Y b o z h] at y;cases y
 obtain⟨W,N,rfl⟩:=C1.cons;obtain⟨ac,ab,rfl⟩:=M.cons;exact q' i ⟨D,r,W,ac,N,ab,C1,M,aa,n1,n2,L,by lia,by lia⟩ w2
abbrev sLaw:KN:=top 50
theorem zf(C:∀x∈xs,i8 x=true)(hok:PcsOk xs pcs)(L:MAt K CM Z X pcs m1 dm1 pd1 fl1 cd1 T W s (i::r1))(O:MAt K CM Z X pcs m2 dm2 pd2 fl2 cd2 T aa s (m::r2))(c:Told K T I pcs s i rl v E G P U kv)(a:Told K I p pcs s m ab M u g1 r w Y):
 KI (AlikeW K p) [.str (o7 pcs s),v,.ref E,.ref G,.ref P,.ref U] [.str (o7 pcs s),M,.ref u,.ref g1,.ref r,.ref w]:=by
 obtain⟨dW,A,j⟩:=a9a (a8z (s:=s) C hok);have d:=L.S.fr i Ag;have g:=O.S.fr m Ag;have n:m.f=i.f:=by
  have D:=L.ef;have l:=O.ef;rw[<- D] at l;exact (Iv l).1
 have q:m.pc=i.pc:=by
  have D:=d.hi;have l:=g.hi;rw[n,D] at l;exact (Au l).symm
 have Q:=acv (K:=K) (H:=p) (F:=i.f.F) (zs:=i.ys) (ys:=m.ys) (fun y=>by rw[d.ym,g.ym,q]) d.yn g.yn;have J:=aci (Paired.mapP c.cs fun _ _ z=>z.keep fun b o z _ _ _=>a.e _ _ z) a.cs;have N:=a.k1;have R:=a.k4;rw[n] at N R;have ne:∀{x y:KA} {o:HO},I x=some o->y∈[u,g1,r,w]->x≠y:=fun h hy=>gh h (a.o _ hy);exact .cons (.inl ⟨rfl,rfl⟩) (.cons (.inr (.inr ⟨dW,j K p v (c.hw.same a.e),j K p M a.hw,A⟩)) (.cons (.inr (.inl ⟨E,u,_,_,rfl,rfl,ne c.k1 (by simp),a.e _ _ c.k1,N,Q⟩)) (.cons (.inr (.inl ⟨G,g1,_,_,rfl,rfl,ne c.k2 (by simp),a.e _ _ c.k2,a.k2,J⟩)) (.cons (.inr (.inl ⟨P,r,_,_,rfl,rfl,ne c.k3 (by simp),a.e _ _ c.k3,a.k3,J⟩)) (.cons (.inr (.inl ⟨U,w,_,_,rfl,rfl,ne c.k4 (by simp),a.e _ _ c.k4,R,Q⟩)) .nil)))))
theorem af3(e9:12<=n)(fb:ls<=n)(fD:lg<=n)(C:Con K mg w)(T:TxM K mg CM fI)(U:TxF K mg CF fJ)(F:Fun K "law" "law" sLaw f fd)(GC:FC K mg w 1 "_law_cell_at" (uc K))(GN:FC K mg w 3 "_law_names" spNm)(GP:FC K mg w 4 "_law_program" (spProg K))(GH:FC K mg w 3 "_law_heap" (spHeapL K))(GV:FC K mg w 3 "_law_values" (spValues K))(GT:FC K mg w 2 "_law_told_names" (spTold K))(GE:FC K mg w 6 "_law_emptied" (spEmp K (B 5)))(GY:FC K mg w 6 "_law_copied" (spCop K (B 5)))(GU:FC K mg w 7 "_law_told" (spTell K CM CF))(GZ:FC K mg w 1 "_law_spoil" spSpoil)(GI:MC K mg w CM n "__init__" (spMInitX K CM CF (B 5)))(GS:MC K mg w CM ls "step" (spStep K CM CF))(GG:MC K mg w CM lg "go" (spGo K CM CF)):FnOk P w K mg base CX0 (n+1+1) f fd ["_law_script"] (a1b K):=by
 refine F.okA ["_law_script","_law_names_here","_law_program_here","_law_heap_here","_law_spots","_law_values_here","_law_plain_here","_law_machines","_law_pick","_law_turn","_law_procedure","_law_first","_law_machine"] fun fu A outer s0 H vs Q E hr h nd=>?_;have ea:=l0 hr;have hu:=Ba (Dl (show 32<=64 by decide) _) hr.units;have aY:=hr.mono (j:=1) (by lia);have bh:=hr.mono (j:=2) (by lia);have bW:=hr.mono (j:=3) (by lia);have ev:=hr.mono (j:=4) (by lia);have dB:=hr.mono (j:=6) (by lia);have be:=hr.mono (j:=7) (by lia);have eq:=hr.mono (j:=ls) (by lia);have ct:=hr.mono (j:=lg) (by lia);refine⟨_,gc (gu 1 nd (gr GN bW (gw (gr GC aY (gj (qv 0) (i0 ad))) (gw (gr GC aY (gj (qv 0) (i0 ad))) (i0 ad)))))
  (gc (gu 2 nd (gr GP ev (gj (qv 0) (i0 (gj (qv 1) ad)))))
  (gc (pq (gr GH bW (gj (qv 0) (i0 ad))) (adn (jd 3 nd) (jd 4 nd)))
  (gc (gu 5 nd (gr GV bW (gj (qv 0) (i0 (gw (gr GT bh (gq (gy K (qv 2) dn) ad)) (gj (qv 4) ad))))))
  (gc (qy ["_law_procedure"] [] (i:=6) nd rfl (Or.inl rfl) (oq (K:=K) rfl (qv 2)) (fun _ _ _ _=>mn) (fun _ _ _ _=>(gp (su (K:=K) rfl) (ja (ur (K:=K) rfl) (qv 0) jp (j8 dn)) (j5 (gw (gr GY dB (gq (gx K (qv 0) dn) ad)) ad)))))
  (gc (gu 7 nd (i9 (gw (a1c T.mkC GI hr T.mgC (gj (qv 2) (gq (gx K (gy K (qv 2) dn) dn) (og (i0 ad) (gj (qv 5) (gj (qv 3) ad)))))) ad)))
  (gc (ia (jr (K:=K) rfl AF Bg Bh jo (qv 7) (gw (a1c T.mkC GI hr T.mgC (gj (qv 6) (gq (gx K (gy K (qv 6) dn) dn) (og (i0 ad) (gw (ii qf rfl C.dict BW (gj (qv 5) ad)) (gw (ii qf rfl C.dict BW (gj (qv 3) ad)) ad)))))) ad)))
  (gc (gu 8 nd (gr GC aY (gj (qv 0) (i0 ad))))
  (gc (jv AN rfl (kj rfl C.range (jb (gp ji (gr GC aY (gj (qv 0) (i0 ad))) dn) ad)) (jd 9 nd) (gc (ij (i6 ig (qv 9) (gp ji (qv 8) dn)) (gc (jv AN rfl (oq (K:=K) rfl (qv 2)) (jd 10 nd) (gi (ia (gr GE dB (gq (gx K (qv 10) dn) ad)))))
  (gc (ia (o8 AF Hf Hg a1i (qv 2)))
  (gc (ia (o8 BQ C9 Dr sw (qv 5)))
  (gc (ia (o8 BQ C9 Dr sw (qv 3)))
  (gi (km ea (qv 3) dn (j5 (i0 (i0 ad))))))))) iq)
  (gc (gu 11 nd (gr GU be (gq (gy K (qv 7) dn) (jb (gp ir (gp kg (qv 8) dn) (qv 9)) ad))))
  (gc (ij (i6 (afi hu) (qv 11) (gr GU be (gq (gy K (qv 7) dn) (gj (qv 9) ad)))) (gi (gz xb)) iq)
  (gc (ia (gr GZ aY (gj (qv 11) ad)))
  (gi (jv AN rfl (me (gy K (i9 (gj (qv 7) (gq (aev (qv 7)) ad))) (gp ji (gp kg (qv 8) dn) dn))) (jd 12 nd) (gi (ia (jq (qv 12) T.cl GS eq))))))))))
  (gc (gu 11 nd (kh (gy K (qv 7) dn) T.cl GG ct (jb (gp ji (gp kg (qv 8) dn) dn) ad)))
  (gc (ij (i6 uz (qv 11) (kh (gy K (qv 7) dn) T.cl GG ct (jb (gp ji (gp kg (qv 8) dn) dn) ad))) (gi (gz xb)) iq)
  (gi (gz (nj (aeq hu) (gr GU be (gq (gy K (qv 7) dn) (gj (qv 8) ad))) (gr GU be (gq (gy K (qv 7) dn) (jb (gp ir (qv 8) dn) ad))) (ly _)))))))))))))),?_⟩
 obtain⟨a,ns,rfl,hS,q⟩:=h;refine i5 fun A1 dA _ _=>?_;refine⟨_,rfl,a,ns,0,rfl,hS,_,rfl,a,ns,1,rfl,hS,.mk _ _ 6 rfl (by decide) fun nl xs H1 e1 dM aI et aC=>?_⟩;refine dA [rQ a,rQ nl,nQ,nQ,nQ,nQ,nQ,nQ,nQ,nQ,nQ,nQ,nQ] _ ?_;clear dA;refine i5 fun A2 dc _ _=>?_;refine⟨_,rfl,_,rfl,.mk a nl ns 11 xs rfl (e1.seq hS) dM aI et aC (by decide) fun pl ts pcs Z H2 e2 cn ch hok hZ eF=>?_⟩;refine dc [rQ a,rQ nl,rQ pl,nQ,nQ,nQ,nQ,nQ,nQ,nQ,nQ,nQ,nQ] _ ?_;clear dc;have b9:=(e1.trans e2).seq hS;have hps:KI (PrcAt K H2 (B 5)) ts pcs:=Paired.mapP ch fun _ _ z=>by
  obtain⟨pt,t1,t2,f1,p1,f2,p2,bd,x,_⟩:=z;exact PrcAt.same ⟨pt,t1,t2,f1,p1,f2,p2,bd,x⟩ rm_back
 obtain⟨pc,ar⟩:∃pc,pcs[0]?=some pc:=⟨_,Af (by have:=hok.l1;lia)⟩
 obtain⟨t,ht⟩:∃t,ts[0]?=some t:=⟨_,Af (by have:=Ay hps;have:=hok.l1;lia)⟩
 have hpt:=Paired.at2 hps ht ar;have df:=hpt;have bb:=hok.ok pc (AE ar);have atT:atI (ts.map V.ref) 0=some (.ref t):=jg (j:=0) (by rw[Am,ht];rfl);refine i5 fun A3 cx _ _=>?_;refine⟨_,rfl,.mk a ns 2 rfl b9 fun t' hd sl hp ss H3 e3 fz fq kt HL fw=>?_⟩;refine⟨t',_,rfl,SqT.of kt,rfl,_,_,rfl,_,_,rfl,rfl,?_⟩;refine cx [rQ a,rQ nl,rQ pl,rQ hd,rQ sl,nQ,nQ,nQ,nQ,nQ,nQ,nQ,nQ] _ ?_;clear cx kt;refine i5 fun A4 cF _ _=>?_;refine⟨_,rfl,_,rfl,pl,_,_,_,rfl,rfl,SqL.of (e3 _ _ cn),atT,.mk t pc xs _ rfl (hpt.same e3) bb aI hok.heads fun zl zs H4 e4 fg d9 cy cp=>?_⟩;have zx:∀y∈zs,y∈xs:=fun y hy=>by
  obtain⟨z1,J,z3⟩:=(cp y).mp hy;rcases a4l bb z3 with z|z
  . rcases Aq.mp z with w|w
    . exact w
    . exact absurd (Ap.mp w) J
  . exact absurd z z1
 have b8:zs.length<=6:=by rw[<- aI];exact AV cy zx
 refine⟨_,rfl,.mk a zl sl ns ss zs 6 rfl ((e3.trans e4).seq b9) d9 cy b8 (e4 _ _ HL.hs) HL.ls fun Y F H5 e5 cX ed=>?_⟩;refine cF [rQ a,rQ nl,rQ pl,rQ hd,rQ sl,rQ Y,nQ,nQ,nQ,nQ,nQ,nQ,nQ] _ ?_;clear cF;have c3:=HL.same (e4.trans e5);have a8:=(e3.trans e4).trans e5;obtain⟨cs,eh,ck,cv⟩:=aaq (K:=K) c3.cu;have dX:cs.length<=6:=by have:=congrArg Ht ck;rw[Ad,Ad] at this;lia
 have aT:=a8 _ _ cn;have eu:=Ay hps;have aX:KI (PrcZ K (rm (fun b=>b=pl) H5) Z (B 5)) ts pcs:=Paired.mapP ch fun _ _ z=>z.same (ip a8) (fun _ z=>z) fun _ _ z=>z;refine i5 fun A5 cW _ _=>?_;refine⟨_,rfl,pl,rfl,⟨_,SqL.of aT⟩,?_⟩;refine nk (ts.map V.ref) pcs (fun D G y pc=>∃b,y=V.ref b/\PrcN K (rm (fun c=>c=D) G) (fun b=>Z b\/b=pl) (B 5) b pc) id nr (SqL.of aT) (by rw[Ad];have:=hok.l3;lia) (by rw[Ad];exact eu.symm) (fun D G1 G2 y x z e=>?_) (fun D hD i x r hx eC G2 eG cR Q' q'=>?_) (fun ql H6 ys eZ aH c0 hpt=>?_)
 . obtain⟨b,rfl,pt,t1,t2,f1,p1,f2,p2,bd,px,hn⟩:=z;have g:Same (rm (fun c=>c=D) G1) (rm (fun c=>c=D) G2):=xx e rfl;exact⟨b,rfl,pt,t1,t2,f1,p1,f2,p2,bd,⟨g _ _ px.tup,g _ _ px.pt,g _ _ px.t1,g _ _ px.t2,px.f1.same g,px.p1.same g,px.f2.same g,px.p2.same g,px.body.same g,px.okn,px.okr,px.okp,px.ok1,px.ok2,px.l1,px.l2⟩,hn⟩
 . rw[Am] at hx;obtain⟨t',eA,rfl⟩:=AZ.mp hx;obtain⟨r',bh,b4,t1,t2,f1,p1,f2,p2,bd,px,⟨i1,i2,i3,i4⟩,_⟩:=Paired.nth aX eA;rw[eC] at bh;cases bh;have tp:=rm_back _ _ px.tup;have gg:∀{O:Hp},Same H5 O->Same (rm (fun b=>b=pl) H5) (rm (fun c=>c=D) O):=fun {O} e b o z=>by
    obtain⟨z1,J⟩:=j4 z;rw[ib (X:=fun c=>c=D) (gh J hD)];exact e _ _ J
   have np:∀{b:KA} {F:List (List Str)},RowsAt K (rm (fun b=>b=pl) H5) b F->b≠pl:=fun⟨as,z,_⟩=>(j4 z).1;refine⟨_,rfl,_,rfl,t',_,rfl,SqT.of (eG _ _ tp),fun u1 G3 e3 ee=>?_⟩;have da:=eG.trans e3;refine⟨_,rfl,t',_,5,_,rfl,rfl,SqT.of (da _ _ tp),rfl,.mk (fun c=>c=D) bd r.body rfl (fun c z y=>by rw[z] at y;exact cR (e3.free y)) (px.body.same (gg da)) fun l' G4 e4 h4=>?_⟩;refine⟨(szLn 1),fun u2 eD=>?_⟩;obtain⟨G5,aS,s5,k5⟩:=gs eD (.tup [V.ref l']);rw[aS];refine⟨u1,u2,_,_,rfl,rfl,(e4.trans s5).seqT ee,SqT.of k5,ES _ _,ES _ _,io (show 5+1<=1000 by decide),fun u3 bS=>?_⟩;obtain⟨G6,bV,s6,k6⟩:=gs bS (.tup (cutV [V.str r.name,V.ref b4,V.str r.res,V.ref t1,V.ref t2,V.ref bd] none (some 5)++[V.ref l']));have k6:G6 u3=some (.tup [V.str r.name,V.ref b4,V.str r.res,V.ref t1,V.ref t2,V.ref l']):=k6;rw[bV];have bC:=(e3.trans e4).trans s5;have bE:=bC.trans s6;have g6:=gg (eG.trans bE);have nu:¬ u3=D:=fun z=>by rw[z] at bS;exact cR (bC.free bS)
   refine q' (.ref u3) G6 bE ⟨u3,rfl,b4,t1,t2,f1,p1,f2,p2,l',⟨?_,g6 _ _ px.pt,g6 _ _ px.t1,g6 _ _ px.t2,px.f1.same g6,px.p1.same g6,px.f2.same g6,px.p2.same g6,h4.same (ip (s5.trans s6)),px.okn,px.okr,px.okp,px.ok1,px.ok2,px.l1,px.l2⟩,fun z=>z.elim i1 (np px.f1),fun z=>z.elim i2 (np px.p1),fun z=>z.elim i3 (np px.f2),fun z=>z.elim i4 (np px.p2)⟩;rw[ib (X:=fun c=>c=D) nu];exact k6
 rw[CZ] at hpt;have co:=df;obtain⟨us,rfl,b5⟩:=m9 (R:=fun b pc=>PrcN K (rm (fun c=>c=ql) H6) (fun b=>Z b\/b=pl) (B 5) b pc) hpt;have e8:=Ay b5;dsimp only[gt];refine cW [rQ a,rQ nl,rQ pl,rQ hd,rQ sl,rQ Y,rQ ql,nQ,nQ,nQ,nQ,nQ,nQ] _ ?_;clear cW hpt;have eM:∃u0,us[0]?=some u0:=⟨_,Af (by have:=hok.l1;lia)⟩
 obtain⟨u0,cr⟩:=eM;have dW:atI (us.map V.ref) 0=some (.ref u0):=jg (j:=0) (by rw[Am,cr];rfl);obtain⟨fj,eU,e0,fo,up1,fl,fi,fa,dR,_⟩:=Paired.at2 b5 cr ar;have eH:=rm_back _ _ dR.tup;obtain⟨fv,fh,fn,fm,eW,fe,fB,fx,b6⟩:=co.same (a8.trans aH);have bL:=a8.trans aH;have am:=aH _ _ aT;have aj:=aH _ _ ed;have ao:=aH _ _ c3.hd;have a3:∀(O:Hp) (bd:KA),ListX K O (B 5) bd pc.body->∃e,Stands O bd [] 0 (dueR pc.body ([]:Pre).reverse 0) e:=fun O bd h=>by
  obtain⟨e,st,_⟩:=nq (p:=[]) h rfl (AH _);exact⟨e,st⟩
 have bc:AtP pc.body (dueR pc.body ([]:Pre).reverse 0).1 (dueR pc.body ([]:Pre).reverse 0).2:=by
  obtain⟨e,st⟩:=a3 _ _ b6.body;exact za b6.body st
 generalize dueR pc.body ([]:Pre).reverse 0=due at a3 bc;have cg:=a8g bb aI aC hok.heads;have cO:pcs.length<=10:=Aw hok.l3 (by decide);have cM:∀b,Z b\/b=pl->IsLs H6 b:=fun b z=>by
  rcases z with z|z
  . obtain⟨us,y⟩:=(hZ b z).1;exact⟨us,bL _ _ y⟩
  . rw[z];exact⟨_,am⟩
 refine i5 fun A6 ds _ _=>?_;refine⟨_,rfl,_,rfl,pl,_,_,_,rfl,rfl,SqL.of am,atT,t,_,0,_,rfl,rfl,SqT.of b6.tup,at0,(szLn 1),fun t0 eK=>?_⟩;obtain⟨u,ei,s7,k7⟩:=gs eK (.tup [V.int 0]);rw[ei];refine⟨_,rfl,_,rfl,?_⟩;intro m1 dm1 bl dr _;have s8:Same u (upd (upd u dm1 (.own m1)) m1 (.ins CM dm1 [])):=fun b o z=>by rw[f6 (gh z bl),f6 (gh z dr)];exact z
 have bq:=aH.trans s7;have bA:KI (PrcN K u (fun b=>Z b\/b=pl) (B 5)) ts pcs:=Paired.mapP aX fun _ _ z=>by
  obtain⟨pt,t1,t2,f1,p1,f2,p2,bd,x,⟨i1,i2,i3,i4⟩,_⟩:=z;have g:Same (rm (fun b=>b=pl) H5) u:=rm_back.trans bq;have np:∀{b:KA} {F:List (List Str)},RowsAt K (rm (fun b=>b=pl) H5) b F->b≠pl:=fun⟨as,z,_⟩=>(j4 z).1;exact⟨pt,t1,t2,f1,p1,f2,p2,bd,⟨g _ _ x.tup,g _ _ x.pt,g _ _ x.t1,g _ _ x.t2,x.f1.same g,x.p1.same g,x.f2.same g,x.p2.same g,x.body.same g,x.okn,x.okr,x.okp,x.ok1,x.ok2,x.l1,x.l2⟩,fun z=>z.elim i1 (np x.f1),fun z=>z.elim i2 (np x.p1),fun z=>z.elim i3 (np x.f2),fun z=>z.elim i4 (np x.p2)⟩
 refine .mk u (fun b=>Z b\/b=pl) m1 dm1 pl t0 Y hd pc.name ts pcs 0 pc xs (vK zs F) (hK hp) (hp.map (·.1)) [] 0 due rfl s8 bl g8 (s7 _ _ am) (fun c z=>by obtain⟨us,y⟩:=cM c z;exact⟨us,s8 _ _ (s7 _ _ y)⟩) bA hok.nn cO ar rfl cg (SqT.of k7) a3 (AH _) (s7 _ _ aj) (s7 _ _ ao) a3i fun G1 pd1 fl1 p1 eP q1 aA cd1 e7 eV aU eR fC eY g1 H8 N1 dv dD aG=>⟨rfl,?_⟩
 have bv:Same u H8:=fun b o z=>dD b o (s8 _ _ z) (gh z bl);have aR:∀b,b=m1\/b=cd1\/b=fl1\/b=p1\/b=aA->u b=none:=fun b w=>by
  rcases w with rfl|rfl|rfl|rfl|rfl
  . exact bl
  . exact s8.free (aG _ (.inl rfl))
  . exact s8.free (aG _ (.inr (.inl rfl)))
  . exact s8.free (aG _ (.inr (.inr (.inl rfl))))
  . exact s8.free (aG _ (.inr (.inr (.inr (.inl rfl)))))
 have aw:∀b,b=m1\/b=cd1\/b=fl1\/b=p1\/b=aA->H8 b≠none:=by
  rintro b (rfl|rfl|rfl|rfl|rfl) z
  . rw[N1.hm] at z;cases z
  . rw[N1.hcd] at z;cases z
  . rw[N1.hfl] at z;cases z
  . rw[N1.hp] at z;cases z
  . rw[N1.hnd] at z;cases z
 have bB:∀b,b=m1\/b=cd1\/b=fl1\/b=p1\/b=aA->G1 b=none:=by
  rintro b (rfl|rfl|rfl|rfl|rfl)
  . exact N1.n1
  . exact N1.n4
  . exact N1.n5
  . exact N1.n2
  . exact N1.n3
 have cj:u pd1=none:=s8.free (aG _ (.inr (.inr (.inr (.inr rfl)))));refine⟨(szLn 1),fun d aB=>?_⟩;obtain⟨H9,es,s9,k9⟩:=gs aB (.lst [V.ref m1]);dsimp only[gt];rw[es];have bR:=bv.trans s9;refine ds [rQ a,rQ nl,rQ pl,rQ hd,rQ sl,rQ Y,rQ ql,rQ d,nQ,nQ,nQ,nQ,nQ] _ ?_;clear ds;refine ke (a:=n0 _) fun A7 dz _ _=>?_;have cJ:=(s7.trans bR) _ _ c0;refine⟨_,rfl,.inl ⟨rfl,_,SqL.of k9⟩,_,rfl,_,rfl,ql,_,_,_,rfl,rfl,SqL.of cJ,dW,u0,_,0,_,rfl,rfl,SqT.of ((s7.trans bR) _ _ eH),at0,(szLn 1),fun t2 di=>?_⟩;obtain⟨e6,dw,bf,dQ⟩:=gs di (.tup [V.int 0]);rw[dw];have bH:=bR.trans bf;refine⟨_,rfl,Y,_,rfl,bH _ _ (s7 _ _ aj),fun va cL=>?_⟩;obtain⟨fk,dq,a9,d7⟩:=gs cL (.dK (vK zs F));rw[dq];have bz:=bH.trans a9;refine⟨_,rfl,hd,_,rfl,bz _ _ (s7 _ _ ao),fun ha dt=>?_⟩;obtain⟨I,c4,bu,eE⟩:=gs dt (.dK (hK hp));rw[c4];have aP:=bz.trans bu;have an:=(bf.trans a9).trans bu;have a5:=s9.trans an;intro m2 dm2 bo cQ _;have ah:Same I (upd (upd I dm2 (.own m2)) m2 (.ins CM dm2 [])):=fun b o z=>by rw[f6 (gh z bo),f6 (gh z cQ)];exact z
 obtain⟨MA,aJ⟩:∃M:KA->Prop,∀b,M b↔(b=m1\/b=cd1\/b=fl1\/b=p1\/b=aA)\/b=d:=⟨_,fun _=>EU⟩
 have a4:∀b,MA b->H9 b≠none:=fun b w y=>((aJ b).mp w).elim (fun w=>aw b w (s9.free y)) fun w=>by rw[w,k9] at y;cases y
 have bD:∀b,MA b->u b=none:=fun b w=>((aJ b).mp w).elim (aR b) fun w=>by rw[w];exact bv.free aB
 have bU:Same u (rm MA I):=fun b o z=>by
  rw[ib fun w=>by rw[bD b w] at z;cases z];exact aP _ _ z
 have nA:∀{b:KA},H9 b=none->¬ MA b:=fun h w=>a4 _ w h;have b3:(rm MA I) t2=some (.tup [V.int 0]):=by rw[ib (nA di)];exact (a9.trans bu) _ _ dQ
 have bM:(rm MA I) va=some (.dK (vK zs F)):=by rw[ib (nA (bf.free cL))];exact bu _ _ d7
 have cb:(rm MA I) ha=some (.dK (hK hp)):=by rw[ib (nA ((bf.trans a9).free dt))];exact eE
 have bZ:(rm MA I) m2=none:=wv bo;have rb:Same (rm MA I) I:=rm_back;have rn:∀b,MA b->(rm MA I) b=none:=fun b w=>by unfold rm;rw[if_pos w]
 generalize rm MA I=GX at bU b3 bM cb bZ rb rn;have br:=s7.trans bU;have bx:KI (PrcN K GX (fun b=>Z b\/b=pl) (B 5)) us pcs:=Paired.mapP b5 fun _ _ z=>by
  obtain⟨pt,t1,t2,f1,p1,f2,p2,bd,x,i⟩:=z;have g:Same (rm (fun c=>c=ql) H6) GX:=rm_back.trans br;exact⟨pt,t1,t2,f1,p1,f2,p2,bd,⟨g _ _ x.tup,g _ _ x.pt,g _ _ x.t1,g _ _ x.t2,x.f1.same g,x.p1.same g,x.f2.same g,x.p2.same g,x.body.same g,x.okn,x.okr,x.okp,x.ok1,x.ok2,x.l1,x.l2⟩,i⟩
 refine .mk GX (fun b=>Z b\/b=pl) m2 dm2 ql t2 va ha pc.name us pcs 0 pc xs (vK zs F) (hK hp) (hp.map (·.1)) [] 0 due rfl (rb.trans ah) bZ g8 (br _ _ c0) (fun c z=>by obtain⟨us,y⟩:=cM c z;exact⟨us,ah _ _ (rb _ _ (br _ _ y))⟩) bx hok.nn cO ar rfl cg (SqT.of b3) a3 (AH _) bM cb a3i fun G2 pd2 fl2 p2 dx q2 aE cd2 d5 dL av ci eL eo g2 ac l bX ce aD=>⟨rfl,?_⟩
 have aW:Same I ac:=fun b o z=>ce b o (ah _ _ z) (gh z bo);have ai:∀b,b=m2\/b=cd2\/b=fl2\/b=p2\/b=aE->I b=none:=fun b w=>by
  rcases w with rfl|rfl|rfl|rfl|rfl
  . exact bo
  . exact ah.free (aD _ (.inl rfl))
  . exact ah.free (aD _ (.inr (.inl rfl)))
  . exact ah.free (aD _ (.inr (.inr (.inl rfl))))
  . exact ah.free (aD _ (.inr (.inr (.inr (.inl rfl)))))
 have bw:I pd2=none:=ah.free (aD _ (.inr (.inr (.inr (.inr rfl)))));have bF:∀b,b=m2\/b=cd2\/b=fl2\/b=p2\/b=aE->G2 b=none:=by
  rintro b (rfl|rfl|rfl|rfl|rfl)
  . exact l.n1
  . exact l.n4
  . exact l.n5
  . exact l.n2
  . exact l.n3
 have bT:∀b,MA b->G2 b=none:=fun b w=>bX b (.inl ⟨rn b w,fun z=>a4 b w ((an.trans ah).free z)⟩);have ap:ac d=some (.lst [V.ref m1]):=(an.trans aW) _ _ k9;refine⟨d,_,_,rfl,rfl,ap,(show 1<KF by decide),?_⟩;have aq:(upd ac d (.lst ([V.ref m1]++[V.ref m2]))) d=some (.lst [V.ref m1,V.ref m2]):=g8;have ab:∀{b:KA} {o:HO},ac b=some o->b≠d->(upd ac d (.lst ([V.ref m1]++[V.ref m2]))) b=some o:=fun h nb=>by rw[f6 nb];exact h
 have aK:Same H8 (upd ac d (.lst ([V.ref m1]++[V.ref m2]))):=fun b o z=>ab ((a5.trans aW) _ _ z) (gh z aB);have du:G2 d=none:=bT d ((aJ d).mpr (.inr rfl));have bQ:fl2≠d:=fun z=>by have:=ai fl2 (.inr (.inr (.inl rfl)));rw[z,an _ _ k9] at this;cases this
 have tk:∀{b:KA} {us:List V},SqT K ac b us->SqT K (upd ac d (.lst ([V.ref m1]++[V.ref m2]))) b us:=fun {b us} h=>by
  rcases h with (h|⟨o,h⟩)|h
  . exact .inl (.inl (ab h fun z=>by rw[z,ap] at h;cases h))
  . exact .inl (.inr ⟨o,ab h fun z=>by rw[z,ap] at h;cases h⟩)
  . exact .inr h
 have aO:MNew K CM CF (B 5) (rm (fun b=>Z b\/b=pl) GX) (upd ac d (.lst ([V.ref m1]++[V.ref m2]))) m2 dm2 pcs pc 0 (vK zs F) (hK hp) due (hp.map (·.1)) G2 pd2 fl2 p2 dx q2 aE cd2 d5 dL av ci eL eo g2 :=
  ⟨l.g1,fun b o z=>ab (l.gH _ _ z) (gh z du),l.n1,l.n2,l.n3,l.n4,l.n5,l.nc,l.mp,l.hps,l.hpr,l.hpd,l.hbd,l.body,ab l.hm (fun z=>by have:=l.hm;rw[z,ap] at this;cases this),l.mf,l.lm,ab l.hfl bQ,ab l.hp (fun z=>by have:=l.hp;rw[z,ap] at this;cases this),l.ff,l.lf,tk l.hq1,ab l.hnd (fun z=>by have:=l.hnd;rw[z,ap] at this;cases this),l.zn,l.zm,ab l.hcd (fun z=>by have:=l.hcd;rw[z,ap] at this;cases this),l.g0,l.gm⟩
 generalize upd ac d (.lst ([V.ref m1]++[V.ref m2]))=ag at aq ab aK aO |-;refine dz [rQ a,rQ nl,rQ pl,rQ hd,rQ sl,rQ Y,rQ ql,rQ d,nQ,nQ,nQ,nQ,nQ] _ ?_;clear dz;have bj:=N1.same aK;have af:=bv.trans aK;obtain⟨DD,b7⟩:∃D:KA->Prop,∀b,D b↔b=Y\/b=hd:=⟨_,fun _=>EU⟩
 have cz:=s7 _ _ aj;have dk:=s7 _ _ ao;have bg:∀b,DD b->∃kv,u b=some (.dK kv):=fun b w=>((b7 b).mp w).elim (fun w=>by rw[w];exact⟨_,cz⟩) fun w=>by rw[w];exact⟨_,dk⟩
 have c7:NoD G1 DD:=fun b w o z=>by
  obtain⟨kv,y⟩:=bg b w;have:=bj.gH _ _ z;rw[af _ _ y] at this;exact⟨kv,(Au this).symm⟩
 have c5:NoD G2 DD:=fun b w o z=>by
  obtain⟨kv,y⟩:=bg b w;have:=aO.gH _ _ z;rw[af _ _ y] at this;exact⟨kv,(Au this).symm⟩
 have bm:=bj.noD c7 fun w=>by obtain⟨kv,y⟩:=bg _ w;rw[cj] at y;cases y
 have ba:=aO.noD c5 fun w=>by obtain⟨kv,y⟩:=bg _ w;rw[aP _ _ y] at bw;cases bw
 obtain⟨XX,ak⟩:∃X:KA->Prop,∀b,X b↔(MA b\/(b=m2\/b=cd2\/b=fl2\/b=p2\/b=aE))\/(Z b\/b=pl)\/DD b:=⟨_,fun _=>EU⟩
 have aZ:Same (rm DD G1) (rm XX ag):=fun b o z=>by
  obtain⟨z1,J⟩:=j4 z;rw[ib fun w=>?_]
  . exact bj.gH _ _ J
  . rcases (ak b).mp w with (w|w)|w|w
    . rcases (aJ b).mp w with w|w
      . rw[bB b w] at J;cases J
      . have:=N1.gH _ _ J;rw[w,aB] at this;cases this
    . have:=a5 _ _ (N1.gH _ _ J);rw[ai b w] at this;cases this
    . rw[dv b (.inr w)] at J;cases J
    . exact z1 w
 have aV:Same (rm DD G2) (rm XX ag):=fun b o z=>by
  obtain⟨z1,J⟩:=j4 z;rw[ib fun w=>?_]
  . exact aO.gH _ _ J
  . rcases (ak b).mp w with (w|w)|w|w
    . rw[bT b w] at J;cases J
    . rw[bF b w] at J;cases J
    . rw[bX b (.inr w)] at J;cases J
    . exact z1 w
 have sX:Same (rm XX ag) ag:=rm_back;have xn:∀b,XX b->(rm XX ag) b=none:=fun b w=>by unfold rm;rw[if_pos w]
 have cK:∀b o,(rm XX ag) b=some o->¬ XX b:=fun b o z=>(j4 z).1;generalize rm XX ag=X at aZ aV sX xn cK;have bN:∀(ys:List Str),(∀y,y∈ys↔i8 y=true/\y∈allW (B 5) pc)->∀y∈ys,y∈zs:=fun ys hm y hy=>by
  obtain⟨h1,h2⟩:=(hm y).mp hy;rw[a1p bb] at h2;exact (cp y).mpr ⟨fun z=>(by rw[z,no_nil.2] at h1;cases h1),fun z=>(by rw[z,no_nil.1] at h1;cases h1),h2⟩
 have cI:=bq.trans af;have a0:KI (CellAt K ag) (hK hp) cs:=Paired.mapP eh fun _ _ z=>z.keep fun b o z _ _ _=>cI _ _ z;have B1:=a8d bm aZ sX (fun b h=>xn b ((ak b).mpr (.inl (.inl ((aJ b).mpr (.inl h)))))) ar (cs:=cs) a0 (bN _ N1.zm) b8 bc;have B2:=a8d ba aV sX (fun b h=>xn b ((ak b).mpr (.inl (.inr h)))) ar (cs:=cs) a0 (bN _ l.zm) b8 bc;have P1:=ab5 aC aI hok (aZ _ _ bm.hpd) (Paired.mapP bm.hps fun _ _ z=>z.same aZ);have P2:=ab5 aC aI hok (aV _ _ ba.hpd) (Paired.mapP ba.hps fun _ _ z=>z.same aV);have ge:g2=g1:=by
  by_cases h0:hp.map (·.1)=[]
  . rw[N1.g0 h0,l.g0 h0]
  . obtain⟨h1,h2⟩:=N1.gm h0;obtain⟨h3,h4⟩:=l.gm h0;have:=h2 _ h3;have:=h4 _ h1
    lia
 rw[ge] at B2;have T0:Tz K CM CF X pcs ⟨m1,dm1,pd1,fl1,cd1,m2,dm2,pd2,fl2,cd2⟩ (fun b=>u b≠none\/b=d) ⟨[⟨0,due.1,due.2,F,""⟩],cs,g1,false⟩ 0 ag:=by
  have cA:∀{b:KA} {a:Fr},a.p=p1->a.nd=aA->b∈muM m1 cd1 fl1 [a]->b=m1\/b=cd1\/b=fl1\/b=p1\/b=aA:=fun {b a} ep en h=>by
   rcases mem_mu.mp h with h|h|h|h|h
   . exact .inl h
   . exact .inr (.inl h)
   . exact .inr (.inr (.inl h))
   . exact .inr (.inr (.inr (.inl ((Ap.mp h).trans ep))))
   . exact .inr (.inr (.inr (.inr ((Ap.mp h).trans en))))
  have cD:∀{b:KA} {a:Fr},a.p=p2->a.nd=aE->b∈muM m2 cd2 fl2 [a]->b=m2\/b=cd2\/b=fl2\/b=p2\/b=aE:=fun {b a} ep en h=>by
   rcases mem_mu.mp h with h|h|h|h|h
   . exact .inl h
   . exact .inr (.inl h)
   . exact .inr (.inr (.inl h))
   . exact .inr (.inr (.inr (.inl ((Ap.mp h).trans ep))))
   . exact .inr (.inr (.inr (.inr ((Ap.mp h).trans en))))
  refine⟨_,_,_,_,_,_,B1,B2,fun b h1 h2=>?_,fun b h z=>?_,fun b h z=>?_,fun b z y=>?_,Aj _,by simpa using dX⟩
  . exact aw b (cA rfl rfl h1) (a5.free (ai b (cD rfl rfl h2)))
  . have w:=cA rfl rfl h;rcases z with z|z
    . exact z (aR b w)
    . rw[z] at w;exact aw d w aB
  . have w:=ai b (cD rfl rfl h);rcases z with z|z
    . exact z (aP.free w)
    . rw[z,an _ _ k9] at w;cases w
  . rcases z with z|z
    . exact z (af.free y)
    . rw[z,aq] at y;cases y
 have bG:=((bL.trans s7).trans af).seq b9;have de:=bL.trans s7;refine i5 fun A8 dg _ _=>?_;refine⟨_,rfl,a,ns,9,rfl,bG,?_⟩;generalize ln ns 9=pk;refine dg [rQ a,rQ nl,rQ pl,rQ hd,rQ sl,rQ Y,rQ ql,rQ d,iQ pk,nQ,nQ,nQ,nQ] _ ?_;clear dg B1 B2 bm ba bj aO N1 l aZ aV c7 c5 dv bX dD ce aG aD aw bB bF aR ai bT a4 bD nA rn rb bU br bx bA b3 bM cb bZ a3 bc a0 bN ab tk;refine kq fun A9 cm _ _=>?_;refine⟨_,rfl,a,ns,10,rfl,bG,_,_,rfl,rfl,(show (0:Int)<41 by decide),?_⟩;obtain⟨N,hN,eS⟩:∃N:Nat,ln ns 10 % 41=(N:Int)/\N<41:=⟨(ln ns 10 % 41).toNat,by lia,by lia⟩
 refine⟨(N:Int),congrArg (fun x=>[V.int x]) hN,by lia,by lia,?_⟩;rw[Bv];refine lq (fun i σ G=>∃(s:PM) (z9 az aM ae:Option V),σ=[rQ a,rQ nl,rQ pl,rQ hd,rQ sl,rQ Y,rQ ql,rQ d,iQ pk,z9,az,aM,ae]/\Tz K CM CF X pcs ⟨m1,dm1,pd1,fl1,cd1,m2,dm2,pd2,fl2,cd2⟩ (fun b=>u b≠none\/b=d) s i G/\G d=some (.lst [V.ref m1,V.ref m2])/\((i:Int)<=pk % 41->Same u G)) ⟨_,none,none,none,none,rfl,T0,aq,fun _=>af⟩ ?_ ?_
 . rintro i σ G hi ⟨s,z9,az,aM,ae,rfl,T1,kl,sm⟩;dsimp only[gt];refine m3 fun C1 bY _ _=>?_;have dm:∀(G1:Hp) (aa:Option V),Tz K CM CF X pcs ⟨m1,dm1,pd1,fl1,cd1,m2,dm2,pd2,fl2,cd2⟩ (fun b=>u b≠none\/b=d) s i G1->G1 d=some (.lst [V.ref m1,V.ref m2])->((i:Int)+1<=pk % 41->Same u G1)->C1.nx [rQ a,rQ nl,rQ pl,rQ hd,rQ sl,rQ Y,rQ ql,rQ d,iQ pk,iQ (0+(i:Int)),aa,aM,ae] G1:=fun G1 aa T2 aF eB=>by
    refine bY _ _ ?_;clear bY T1 kl sm;obtain⟨a7,au,a1,a2,r1,r2,A1,A2,dj,o1,o2,al,l1,l2⟩:=id T2;have ec:=A1.S.fr a1 Ag;refine i5 fun C2 c9 _ _=>?_;refine⟨_,rfl,d,_,0,_,rfl,rfl,SqL.of aF,rfl,_,rfl,_,_,rfl,rfl,(show CDiv _ 41 from⟨by decide,by decide⟩),_,rfl,_,_,rfl,rfl,.mk X m1 dm1 pd1 fl1 cd1 a7 pcs s a1 r1 _ rfl A1 fun rl v d1 c1 c2 d2 kv G2 W1=>?_⟩;dsimp only[gt];refine c9 [rQ a,rQ nl,rQ pl,rQ hd,rQ sl,rQ Y,rQ ql,rQ d,iQ pk,iQ (0+(i:Int)),aa,rQ rl,ae] _ ?_;clear c9;refine m3 fun C3 cw _ _=>?_;refine⟨_,rfl,_,rfl,d,_,1,_,rfl,rfl,SqL.of (W1.e _ _ aF),rfl,_,rfl,.mk X m2 dm2 pd2 fl2 cd2 au pcs s a2 r2 _ rfl (A2.same W1.e) fun cc v2 b1 g1 g2 b2 ek G3 W2=>?_⟩;have al:=zf aC hok A1 A2 W1 W2;refine⟨rl,cc,_,_,rfl,rfl,W2.e _ _ W1.hr,W2.hr,al,_,rfl,iteB (fun c=>absurd c Ak) (fun _=>?_)⟩;refine cw [rQ a,rQ nl,rQ pl,rQ hd,rQ sl,rQ Y,rQ ql,rQ d,iQ pk,iQ (0+(i:Int)),aa,rQ rl,ae] _ ?_;clear cw;refine ke (a:=n0 _) fun C4 c8 _ _=>?_;have fA:=Ay W1.cs;refine⟨_,rfl,.mk rl d1 c1 c2 d2 _ _ _ _ _ _ rfl (W2.e _ _ W1.hr) (W2.e _ _ W1.k1) (W2.e _ _ W1.k2) (W2.e _ _ W1.k3) (W2.e _ _ W1.k4) (by unfold vK;rw[Ad];have:=ec.hl;lia) (by lia) W1.n fun G4 kp=>?_⟩;have bO:Same G1 G4:=fun b o z=>kp b o ((W1.e.trans W2.e) _ _ z) fun w=>by rw[W1.o b w] at z;cases z
    refine c8 [rQ a,rQ nl,rQ pl,rQ hd,rQ sl,rQ Y,rQ ql,rQ d,iQ pk,iQ (0+(i:Int)),aa,rQ rl,ae] _ ?_;clear c8;have T4:=T2.same bO;have bP:=bO _ _ aF;refine⟨_,rfl,_,rfl,d,_,rfl,SqL.of bP,fun lr dy=>?_⟩;obtain⟨G5,aS,s5,k5⟩:=gs dy (.lst [V.ref m1,V.ref m2].reverse);have k5:G5 lr=some (.lst [V.ref m2,V.ref m1]):=k5;rw[aS];refine⟨(szLn 2),fun ll eg=>?_⟩;obtain⟨G6,bV,s6,k6⟩:=gs eg (.lst [V.ref d,V.ref lr]);rw[bV];have bp:=s5.trans s6;have T6:=T4.more bp dy (s6 _ _ k5);refine⟨_,rfl,_,_,rfl,rfl,(show CDiv _ 82 from⟨by decide,by decide⟩),_,_,rfl,rfl,(show (0:Int)<2 by decide),?_⟩;obtain⟨c',L,pA,pB,db,T7,PA,PB,kL,hL,c6⟩:∃(c':TC) (L:KA) (pA pB:List KA),atI [V.ref d,V.ref lr] (pk / 82 % 2)=some (.ref L)/\Tz K CM CF X pcs c' (fun b=>(u b≠none\/b=d)\/b=lr) s i G6/\Pg K X pcs c'.pd1 pA xs/\Pg K X pcs c'.pd2 pB xs/\G6 L=some (.lst [V.ref c'.m1,V.ref c'.m2])/\(L=d\/L=lr)/\∀s n O,Tz K CM CF X pcs c' (fun b=>(u b≠none\/b=d)\/b=lr) s n O->Tz K CM CF X pcs ⟨m1,dm1,pd1,fl1,cd1,m2,dm2,pd2,fl2,cd2⟩ (fun b=>(u b≠none\/b=d)\/b=lr) s n O:=by
     have hj:pk / 82 % 2=0\/pk / 82 % 2=1:=by lia
     rcases hj with hj|hj
     . exact⟨_,d,aU,av,by rw[hj];rfl,T6,P1,P2,bp _ _ bP,.inl rfl,fun _ _ _ z=>z⟩
     . exact⟨_,lr,av,aU,by rw[hj];rfl,T6.turn,P2,P1,s6 _ _ k5,.inr rfl,fun _ _ _ z=>z.turn⟩
    refine⟨ll,_,_,_,rfl,rfl,SqL.of k6,db,L,rfl,⟨_,SqL.of kL⟩,?_⟩;have oL:(u L≠none\/L=d)\/L=lr:=hL.elim (fun z=>.inl (.inr z)) .inr;refine ld (xs:=[V.ref c'.m1,V.ref c'.m2]) (fun j σ O=>∃bi:Option V,σ=[rQ a,rQ nl,rQ pl,rQ hd,rQ sl,rQ Y,rQ ql,rQ d,iQ pk,iQ (0+(i:Int)),aa,rQ rl,bi]/\(∀b o,((u b≠none\/b=d)\/b=lr)->G6 b=some o->O b=some o)/\(j=0->O=G6)/\(j=1->(∃au,O c'.m2=some (.ins CM c'.dm2 au)/\∀x∈mj,au.lookup x=none)/\(∀Q' E',(∀H2,Tz K CM CF X pcs c' (fun b=>(u b≠none\/b=d)\/b=lr) (jn pcs s) (i+1) H2->(∀b o,((u b≠none\/b=d)\/b=lr)->G6 b=some o->H2 b=some o)->Q' .non H2)->spStep K CM CF [.ref c'.m2] O Q' E'))/\(j=2->Tz K CM CF X pcs c' (fun b=>(u b≠none\/b=d)\/b=lr) (jn pcs s) (i+1) O)) ⟨ae,rfl,fun _ _ _ z=>z,fun _=>rfl,(fun z=>by cases z),(fun z=>by cases z)⟩ ?_ ?_ ?_
    . rintro j σ O _ ⟨bi,rfl,aN,_⟩;exact SqL.of (aN L _ oL kL)
    . rintro j x σ O hx ⟨bi,rfl,aN,h0,h1,_⟩;dsimp only[gt];have ft:j<2:=(Az.mp hx).1;rcases (show j=0\/j=1 by lia) with rfl|rfl
      . cases hx;have:=h0 rfl;subst this;obtain⟨f1,dO,eb⟩:=T7.one;exact⟨_,rfl,c'.m1,c'.dm1,f1,rfl,dO,eb _ (by decide),T7.both PA PB (by lia) fun H1 k2 w1 bJ=>⟨_,rfl,w1,(fun z=>by cases z),fun _=>⟨k2,bJ⟩,(fun z=>by cases z)⟩⟩
      . cases hx;obtain⟨⟨f2,ey,d0⟩,bJ⟩:=h1 rfl;exact⟨_,rfl,c'.m2,c'.dm2,f2,rfl,ey,d0 _ (by decide),bJ _ _ fun H2 T8 w2=>⟨_,rfl,w2,(fun z=>by cases z),(fun z=>by cases z),fun _=>T8⟩⟩
    rintro σ G7 ⟨bi,rfl,aN,_,_,h2⟩;have T8:=c6 _ _ _ (h2 rfl);refine⟨jn pcs s,_,_,_,_,rfl,T8.less fun b z=>.inl z,aN d _ (.inl (.inr rfl)) (bp _ _ bP),fun h b o z=>?_⟩;exact aN b o (.inl (.inl (by rw[z];exact fun y=>by cases y))) (bp _ _ (bO _ _ (eB (by lia) _ _ z)))
   clear bY;refine⟨_,rfl,_,rfl,_,_,rfl,rfl,(show (0:Int)<41 by decide),rfl,_,rfl,iteB (fun c=>?_) (fun c=>dm G az T1 kl (fun h=>sm (by lia)))⟩;have fp:0+(i:Int)=pk % 41:=V.int.inj (of_decide_eq_true c);have aQ:=sm (by lia);have W:=aQ _ _ (s7 _ _ am);have ax:=aQ _ _ (s7 _ _ aj);have ay:=aQ _ _ (s7 _ _ ao);have eN:∀b,Z b->u b≠none:=fun b z y=>by obtain⟨us,w⟩:=(hZ b z).1;rw[de _ _ w] at y;cases y
   obtain⟨N0,bt⟩:∃N:KA->Prop,∀b,N b↔¬ Z b/\IsLs G b:=⟨_,fun _=>EU⟩
   have cq:∀{O:Hp},Em N0 G O->∀c,N0 c->O c≠none:=fun {O} m c z y=>by
    obtain⟨us,w⟩:=((bt c).mp z).2;rw[m.free y] at w;cases w
   have B1:∀b∈B 5,1<=b:=by decide
   refine kq fun D1 aL _ _=>?_;refine⟨_,rfl,pl,rfl,⟨_,SqL.of W⟩,?_⟩;have ca:N0 pl:=(bt pl).mpr ⟨eF,_,W⟩;refine ld (xs:=ts.map V.ref) (fun j σ O=>∃aa:Option V,σ=[rQ a,rQ nl,rQ pl,rQ hd,rQ sl,rQ Y,rQ ql,rQ d,iQ pk,iQ (0+(i:Int)),aa,aM,ae]/\Em N0 G O) ⟨az,rfl,Em.of (Same.refl _)⟩ ?_ ?_ ?_
   . rintro j σ O _ ⟨aa,rfl,m⟩;exact SqL.of (m.kept W (.inl ca))
   . rintro j x σ O hx ⟨aa,rfl,m⟩;rw[Am] at hx;obtain⟨tj,eJ,rfl⟩:=AZ.mp hx;obtain⟨pj,_,pt,t1,t2,f1,p1,f2,p2,bd,px,_,hY⟩:=Paired.nth aX eJ;have tG:=m.kept (aQ _ _ (bq _ _ (rm_back _ _ px.tup))) (.inr fun _ z=>by cases z);have gY:Same (OnZ Z (rm (fun b=>b=pl) H5)) (rm N0 G):=fun b o z=>by
      obtain⟨z1,J⟩:=a2m z;have zG:=aQ _ _ (bq _ _ (rm_back _ _ z1));rw[ib fun w=>?_]
      . exact zG
      . obtain⟨w1,us,w2⟩:=(bt b).mp w;rcases J with J|J
        . exact w1 J
        . rw[zG] at w2;exact J us (Au w2)
     obtain⟨d8,el⟩:=xa B1 (cq (Em.of (Same.refl _))) m (ListY.same hY gY);dsimp only[gt];exact⟨_,rfl,tj,_,5,_,rfl,rfl,SqT.of tG,rfl,.mk N0 bd d8 rfl (cq m) el fun fc m'=>⟨_,rfl,m.trans m'⟩⟩
   rintro σ G1 ⟨aa,rfl,m⟩;refine aL _ _ ?_;clear aL;have ej:Y≠pl:=fun z=>by rw[z,W] at ax;cases ax
   have ex:hd≠pl:=fun z=>by rw[z,W] at ay;cases ay
   have er:Y≠hd:=fun z=>by rw[z,e4 _ _ HL.hd] at cX;cases cX
   refine⟨_,rfl,.inl ⟨rfl,_,SqL.of (m.kept W (.inl ca))⟩,pl,_,rfl,rfl,m.kept W (.inl ca),?_⟩;have dh:(upd G1 pl (.lst [])) Y=some (.dK (vK zs F)):=by rw[f6 ej];exact m.kept ax (.inr fun _ z=>by cases z)
   refine⟨_,rfl,.inr (.inr (.inl ⟨rfl,.inl ⟨_,dh⟩⟩)),Y,_,rfl,rfl,dh,?_⟩;have dF:(upd (upd G1 pl (.lst [])) Y (.dK [])) hd=some (.dK (hK hp)):=by rw[f6 (AO er),f6 ex];exact m.kept ay (.inr fun _ z=>by cases z)
   refine⟨_,rfl,.inr (.inr (.inl ⟨rfl,.inl ⟨_,dF⟩⟩)),hd,_,rfl,rfl,dF,?_⟩;obtain⟨G4,bn⟩:∃G4,upd (upd (upd G1 pl (.lst [])) Y (.dK [])) hd (.dK [])=G4:=⟨_,rfl⟩
   have k4:G4 hd=some (.dK []):=by rw[<- bn];exact g8
   rw[bn];refine⟨(szLn 2),fun tt ez=>?_⟩;obtain⟨G5,aS,s5,k5⟩:=gs ez (.tup [V.int 3,V.int 3]);rw[aS];refine⟨_,rfl,hd,_,rfl,DPut.k (k:=Sum.inl 3) (s5 _ _ k4) (show 0<KF by decide),?_⟩;have p6:∀{b:KA} {o:HO},G b=some o->(¬ Z b\/∀us,o≠.lst us)->b≠pl->b≠Y->b≠hd->(upd G5 hd (.dK (putK [] (Sum.inl 3) (V.ref tt)))) b=some o:=fun {b o} h w n1 n2 n3=>by
    rw[f6 n3];refine s5 _ _ ?_;rw[<- bn,f6 n3,f6 n2,f6 n1];refine m.kept h ?_;by_cases y:∃us,o=.lst us
    . obtain⟨us,rfl⟩:=y;exact .inl ((bt b).mpr ⟨w.elim id fun z=>absurd rfl (z us),us,h⟩)
    . exact .inr fun us z=>y ⟨us,z⟩
   have a6:∀b,G b≠none->(upd G5 hd (.dK (putK [] (Sum.inl 3) (V.ref tt)))) b≠none:=fun b h y=>by
    by_cases n3:b=hd
    . rw[n3,g8] at y;cases y
    rw[f6 n3] at y;have y:=s5.free y;rw[<- bn,f6 n3] at y;by_cases n2:b=Y
    . rw[n2,g8] at y;cases y
    rw[f6 n2] at y;by_cases n1:b=pl
    . rw[n1,g8] at y;cases y
    rw[f6 n1] at y;exact h (m.free y)
   generalize upd G5 hd (.dK (putK [] (Sum.inl 3) (V.ref tt)))=G6 at p6 a6 |-;have n7:∀{b:KA},u b=none->b≠pl/\b≠Y/\b≠hd/\¬ Z b:=fun {b} h=>⟨(fun z=>by rw[z,s7 _ _ am] at h;cases h),(fun z=>by rw[z,s7 _ _ aj] at h;cases h),(fun z=>by rw[z,s7 _ _ ao] at h;cases h),fun z=>eN b z h⟩
   have ef:u d=none:=bv.free aB;have d3:Same X G:=by obtain⟨_,_,_,_,_,_,A1,_⟩:=id T1;exact A1.S.sX
   refine dm G6 aa (T1.keep (fun b o z=>?_) (fun b o z w=>?_) (fun b z=>a6 b ?_)) ?_ (fun h=>absurd h (by lia))
   . have nx:=cK b o z;exact p6 (d3 _ _ z) (.inl fun y=>nx ((ak b).mpr (.inr (.inl (.inl y))))) (fun y=>nx ((ak b).mpr (.inr (.inl (.inr y))))) (fun y=>nx ((ak b).mpr (.inr (.inr ((b7 b).mpr (.inl y)))))) (fun y=>nx ((ak b).mpr (.inr (.inr ((b7 b).mpr (.inr y))))))
   . rcases w with w|⟨w1,w2,w3⟩
     . have hb:u b=none:=by
        cases h:u b with
        | none=>rfl
        | some o=>exact absurd (.inl (by rw[h];exact fun z=>by cases z)) w
       obtain⟨n1,n2,n3,n4⟩:=n7 hb;exact p6 z (.inl n4) n1 n2 n3
     . exact p6 z (.inr w3) (fun y=>by rw[y,W] at z;exact w3 _ (Au z).symm) (fun y=>by rw[y,ax] at z;exact w2 _ (Au z).symm) (fun y=>by rw[y,ay] at z;exact w2 _ (Au z).symm)
   . obtain⟨_,_,_,_,_,_,_,_,_,_,_,al,_⟩:=id T1;exact al b z
   . obtain⟨n1,n2,n3,n4⟩:=n7 ef;exact p6 kl (.inl n4) n1 n2 n3
 rintro σ G ⟨s,z9,az,aM,ae,rfl,T1,kl,sm⟩;refine cm _ _ ?_;clear cm sm;obtain⟨k,hk,fy⟩:∃k:Nat,pk / 164 % 9=(k:Int)/\k<9:=⟨(pk / 164 % 9).toNat,by lia,by lia⟩
 obtain⟨a7,au,a1,a2,r1,r2,A1,A2,dj,o1,o2,al,l1,l2⟩:=id T1;have f1:=A1.flen;have f2:=A2.flen;refine i5 fun D1 aL _ _=>?_;refine⟨_,rfl,d,_,0,_,rfl,rfl,SqL.of kl,rfl,m1,dm1,a7,rfl,A1.hm,A1.mf.meth _ (by decide),_,rfl,_,_,rfl,rfl,(show CDiv _ 164 from⟨by decide,by decide⟩),_,_,rfl,rfl,(show (0:Int)<9 by decide),.mk X m1 dm1 pd1 fl1 cd1 a7 pcs s _ aU xs k (congrArg (fun x=>[V.ref m1,V.int x]) hk) A1 P1 (by lia) (by lia) fun G1 eT b0 B1 cd ew=>?_⟩;dsimp only[gt];refine aL [rQ a,rQ nl,rQ pl,rQ hd,rQ sl,rQ Y,rQ ql,rQ d,iQ pk,z9,az,iQ ((goM pcs k s).1:Int),ae] _ ?_;clear aL;have B2:=A1.other A2 dj B1.S.sX cd;have cB:=cd d _ kl fun z=>o1 d z (.inr rfl);refine m3 fun D2 dd _ _=>?_;refine⟨_,rfl,_,rfl,d,_,1,_,rfl,rfl,SqL.of cB,rfl,m2,dm2,au,rfl,B2.hm,B2.mf.meth _ (by decide),_,rfl,_,_,rfl,rfl,(show CDiv _ 164 from⟨by decide,by decide⟩),_,_,rfl,rfl,(show (0:Int)<9 by decide),.mk X m2 dm2 pd2 fl2 cd2 au pcs s _ av xs k (congrArg (fun x=>[V.ref m2,V.int x]) hk) B2 P2 (by lia) (by lia) fun G2 eQ dJ C2 cf eX=>?_⟩;have nt:¬ (!decide (V.int ((goM pcs k s).1:Int)=V.int ((goM pcs k s).1:Int)))=true:=by rw[decide_eq_true rfl];decide
 refine⟨rfl,_,rfl,iteB (fun c=>absurd c nt) (fun _=>?_)⟩;refine dd _ _ ?_;clear dd;have eI:∀b∈muM m1 cd1 fl1 b0,b∉muM m2 cd2 fl2 (a2::r2):=fun b hb h2=>by
  rcases ew b hb with z|z
  . exact dj b z h2
  . obtain⟨_,o,ho,_⟩:=A2.out h2;rw[z] at ho;cases ho
 have C1:=B2.other B1 (fun b h1 h2=>eI b h2 h1) C2.S.sX cf;have aF:=cf d _ cB fun z=>o2 d z (.inr rfl);obtain⟨em,d4,rfl⟩:=C1.cons;obtain⟨eO,d6,rfl⟩:=C2.cons;refine⟨_,rfl,d,_,0,_,rfl,rfl,SqL.of aF,rfl,_,rfl,.mk X m1 dm1 pd1 fl1 cd1 _ pcs _ em d4 _ rfl C1 fun rl v d1 c1 c2 d2 kv G3 W1=>?_⟩;refine⟨_,rfl,d,_,1,_,rfl,rfl,SqL.of (W1.e _ _ aF),rfl,_,rfl,_,_,rfl,rfl,.mk X m2 dm2 pd2 fl2 cd2 _ pcs _ eO d6 _ rfl (C2.same W1.e) fun cc v2 b1 g1 g2 b2 ek G4 W2=>?_⟩;exact⟨rl,cc,_,_,rfl,rfl,W2.e _ _ W1.hr,W2.hr,zf aC hok C1 C2 W1 W2,q _⟩
theorem ul(X:K.In h)(G:h.Ns KH mg)(e:AM K KH x=some (some (.ref a))):Glob mg x (.ref a):=⟨_,Dt X G e,rfl⟩
theorem a32(X:K.In h)(G:h.Ns KH mg)(e:AM K KH x=some (some (.str y t)))(a:y=z):Glob mg x (.str z):=⟨_,Dt X G e,t,by rw[a]⟩
theorem aas(X:K.In h)(G:h.Ns KH mg)(e:AM K KH x=some (some (.int i t)))(a:i=j):Glob mg x (.int j):=⟨_,Dt X G e,t,by rw[a]⟩
theorem rel_find(h:KI (fun (kv:Str×V) (e:DictEntry)=>∃a t u,e=⟨a,.str kv.1 t,u⟩/\RelV kv.2 u) kvs es.toList)(x:Str):RelO (kvs.lookup x) (findBy BU es x):=by
 unfold findBy;rw[<- IK];generalize es.toList=l at h;have b:∀y t,BU x (.str y t)=(x==y):=fun y t=>by
  show (y==x)=(x==y)
  exact Bool.eq_iff_iff.mpr ⟨fun z=>beq_iff_eq.mpr (beq_iff_eq.mp z).symm,fun z=>beq_iff_eq.mpr (beq_iff_eq.mp z).symm⟩
 induction h with
 | nil=>exact trivial
 | cons h1 _ ih =>
  rename_i kv e _ _ _;obtain⟨k,v⟩:=kv;obtain⟨a,t,u,rfl,r⟩:=h1;simp only[BJ,b,Cf];dsimp only at r ih |-;cases x==k with
  | true=>exact r
  | false=>exact ih
theorem all_mk{l:Hi}(X:K.In h)(G:h.Ns KH mg)(eX:mg "law"=some (.ref fa))(O:AM K KH "Frame"=some (some (.ref y)))(f:AM K KH "Machine"=some (some (.ref a)))(F1:GF K "is_name" a09)(F2:GF K "names_of" yc)(F3:GF K "number_of" a83)(F4:GF K "holds" a8h)(F5:GF K "lists_in" a2o)(F6:GF K "own_deed" a2v)(F7:GF K "own_deeds" a0v)(F8:GF K "cell_name" a0q)(F9:GF K "all_deeds" sAll)(bD:GF K "words_of" a6f)(bb:GF K "names_in" a1m)(bX:GF K "by_names" yl)(ba:GF K "list_of" a4a)(aI:GF K "found_at" a8l)(b0:GF K "behind_deed" a4h)(bJ:GF K "settled" a1g)(bO:GF K "_law_cell_at" a4s)(aF:GF K "_law_rich" ab4)(bp:GF K "_law_fed" sFed)(bM:GF K "_law_digit" a7s)(aV:GF K "_law_unlike" a3s)(aU:GF K "_law_names" a7e)(bd:GF K "_law_plain" a6y)(bn:GF K "_law_closed" a3e)(aR:GF K "_law_body" abd)(bh:GF K "_law_program" abh)(bA:GF K "_law_said_by" a3q)(bo:GF K "_law_told_names" abf)(bq:GF K "_law_value" a6x)(aW:GF K "_law_heap" abm)(bL:GF K "_law_values" a47)(F:GF K "_law_copied" sCop)(E:GF K "_law_emptied" sEmp)(bZ:GF K "_law_told" abp)(bU:GF K "_law_spoil" a6r)(dd:AM K KH "law"=some (some (.ref dH)))(bz:Fun K "law" "law" sLaw dH fm)(b1:AR K (.ref y) "__init__"=some (some (.ref aA)))(br:DJ K (.ref aA)=true)(bj:GM K y "__init__" "Frame.__init__" a6a)(bv:GM K y "deed" "Frame.deed" a6t)(bY:GM K y "move" "Frame.move" a7x)(bQ:GM K y "number" "Frame.number" abl)(aM:AR K (.ref a) "__init__"=some (some (.ref al)))(bB:DJ K (.ref al)=true)(aY:GM K a "__init__" "Machine.__init__" a30)(aK:GM K a "word" "Machine.word" a6g)(bF:GM K a "where" "Machine.where" a3u)(aJ:GM K a "held" "Machine.held" a6k)(bt:GM K a "heap" "Machine.heap" a6j)(bE:GM K a "go" "Machine.go" sMGo)(aL:GM K a "step" "Machine.step" a7g)(bx:GM K a "branch" "Machine.branch" a24)(bN:GM K a "enter" "Machine.enter" a3d)(bg:GM K a "leave_ended" "Machine.leave_ended" a3x)(be:GM K a "change" "Machine.change" a2w)(Q:Dg K y JN=true)(Z:DC K y=true)(R:E9 K y=true)(J:AR K (.ref y) "__setattr__"=some (some (.builtin "object.__setattr__")))(Y:Fc K y=true)(I:Cs K (.ref y)=true)(S:AR K (.ref y) "procedure"=some none)(ab:AR K (.ref y) "path"=some none)(N:AR K (.ref y) "numbers"=some none)(L:AR K (.ref y) "receiver"=some none)(u:Dg K a JN=true)(d:DC K a=true)(g:E9 K a=true)(q:AR K (.ref a) "__setattr__"=some (some (.builtin "object.__setattr__")))(o:Fc K a=true)(i:Cs K (.ref a)=true)(j:AR K (.ref a) "procedures"=some none)(p:AR K (.ref a) "frames"=some none)(m:AR K (.ref a) "cells"=some none)(c:AR K (.ref a) "greatest"=some none)(z:AR K (.ref a) "fallen"=some none)(z1:AM K KH "len"=some none)(z2:AM K KH "all"=some none)(z3:AM K KH "any"=some none)(z4:AM K KH "isinstance"=some none)(z5:AM K KH "list"=some none)(z6:AM K KH "int"=some none)(z7:AM K KH "bool"=some none)(z8:AM K KH "str"=some none)(z9:AM K KH "dict"=some none)(cB:AM K KH "sorted"=some none)(cz:AM K KH "set"=some none)(ds:AM K KH "sum"=some none)(eZ:AM K KH "range"=some none)(eU:AM K KH "tuple"=some none)(eE:AM K KH "max"=some none)(cA:AM K KH "zip"=some none)(c6:AM K KH "min"=some none)(eI:AM K KH "enumerate"=some none)(gL:AM K KH "LETTERS"=some (some (.str yL tL)))(eL:yL=Mir.letters)(gF:AM K KH "FIGURES"=some (some (.str yF tF)))(eF:yF=Mir.figures)(gS:AM K KH "MOST_SIGNS"=some (some (.int jS tS)))(eS:jS=8)(gN:AM K KH "NO_NAMES"=some (some (.ref aN)))(lN:K.lookup aN=some oN)(cN:oN.cls=.type "tuple")(dN:oN.data=.seq ar nN)(sN:ar.size<=100)(vN:Vals (Mir.noNames.map V.str) ar.toList)(gT:AM K KH "FIELDS"=some (some (.ref aT)))(lT:K.lookup aT=some oT)(cT:oT.cls=.type "tuple")(dT:oT.data=.seq aC nT)(sT:aC.size<=100)(bT:oT.dict=none)(vT:Vals (([("first":Str),"second"]:List Str).map V.str) aC.toList)(gP:AM K KH "PLAIN_FORMS"=some (some (.ref aP)))(lP:K.lookup aP=some ⟨.type "dict",none,.dict es nP,#[]⟩)(hP:Hk w.params es.toList)(mP:(aP==KW)=false)(rP:∀x,RelO (([("set",.ref t1),("read",.ref t2),("write",.ref t3),("new",.ref t4),("free",.ref t5)]:List (Str×V)).lookup x) (findBy BU es x))(dZ:K.lookup t1=some o1)(ca:o1.cls=.type "tuple")(cS:o1.data=.seq aw n1)(dg:aw.size<=100)(dV:Vals ((["name","value"]:List Str).map V.str) aw.toList)(e3:K.lookup t2=some o2)(cR:o2.cls=.type "tuple")(eb:o2.data=.seq az n2)(ee:az.size<=100)(dy:Vals ((["name","name","field"]:List Str).map V.str) az.toList)(c2:K.lookup t3=some o3)(eg:o3.cls=.type "tuple")(ei:o3.data=.seq ay n3)(cv:ay.size<=100)(ef:Vals ((["name","field","value"]:List Str).map V.str) ay.toList)(dv:K.lookup t4=some o4)(co:o4.cls=.type "tuple")(dx:o4.data=.seq aB n4)(cb:aB.size<=100)(dM:Vals ((["name","value","value"]:List Str).map V.str) aB.toList)(e1:K.lookup t5=some o5)(eH:o5.cls=.type "tuple")(eK:o5.data=.seq au n5)(cO:au.size<=100)(eM:Vals ((["name"]:List Str).map V.str) au.toList)(gE:AM K KH "CELL_PLACES"=some (some (.ref aE)))(lE:K.lookup aE=some ⟨.type "dict",none,.dict ec nE,#[]⟩)(hE:Hk w.params ec.toList)(mE:(aE==KW)=false)(rE:∀x,RelO (([("read",.int 2),("write",.int 1),("free",.int 1)]:List (Str×V)).lookup x) (findBy BU ec x)):
 ∃fd:Kr,(∀(s:KG) (v:KB),BindsTo s fd ⟨[v],[]⟩ [("_law_script",v)])/\∀base:KU,K.In base->base.Ns KH mg->FnOk l.prog w K mg base CX0 15 fa fd ["_law_script"] (a1b K):=by
 have e:=eX.symm.trans (Dt X G dd);cases e;have C:Con K mg w:={
  len:=AW X G z1
  all:=AW X G z2
  any:=AW X G z3
  isi:=AW X G z4
  list:=AW X G z5
  int:=AW X G z6
  bool:=AW X G z7
  str:=AW X G z8
  dict:=AW X G z9
  sorted:=AW X G cB
  set:=AW X G cz
  sum:=AW X G ds
  range:=AW X G eZ
  tuple:=AW X G eU
  max:=AW X G eE
  zip:=AW X G cA
  min:=AW X G c6
  gf:=Dt X G
  enumerate:=AW X G eI
  letters:=a32 X G gL eL
  figures:=a32 X G gF eF
  mostSigns:=aas X G gS eS
  noNames:=⟨aN,ul X G gN,fun _=>.inr ⟨oN,ar,nN,lN,cN,dN,Aw sN (by decide),vN⟩⟩
  fields:=⟨aT,ul X G gT,(fun _=>.inr ⟨oT,aC,nT,lT,cT,dT,Aw sT (by decide),vT⟩),oT,lT,cT,bT⟩
  places:=⟨aE,ul X G gE,ec,nE,lE,hE,mE,rE⟩
  forms:=⟨aP,[("set",t1),("read",t2),("write",t3),("new",t4),("free",t5)],ul X G gP,⟨es,nP,lP,hP,mP,rP⟩,rfl,fun w t r h1 h2 H=>by
   have S1:SqT K H t1 (([("name":Str),"value"]:List Str).map V.str):=.inr ⟨o1,aw,n1,dZ,ca,cS,Aw dg (by decide),dV⟩;have S2:SqT K H t2 (([("name":Str),"name","field"]:List Str).map V.str):=.inr ⟨o2,az,n2,e3,cR,eb,Aw ee (by decide),dy⟩;have S3:SqT K H t3 (([("name":Str),"field","value"]:List Str).map V.str):=.inr ⟨o3,ay,n3,c2,eg,ei,Aw cv (by decide),ef⟩;have S4:SqT K H t4 (([("name":Str),"value","value"]:List Str).map V.str):=.inr ⟨o4,aB,n4,dv,co,dx,Aw cb (by decide),dM⟩;have S5:SqT K H t5 (([("name":Str)]:List Str).map V.str):=.inr ⟨o5,au,n5,e1,eH,eK,Aw cO (by decide),eM⟩;have hl:=uw yg h2;simp only[Ah,Av,or_false,Prod.mk.injEq] at h1;rcases h1 with⟨rfl,rfl⟩|⟨rfl,rfl⟩|⟨rfl,rfl⟩|⟨rfl,rfl⟩|⟨rfl,rfl⟩
   . rw[show forms.lookup ("set":Str)=some [("name":Str),"value"] by decide] at hl;cases hl;exact S1
   . rw[show forms.lookup ("read":Str)=some [("name":Str),"name","field"] by decide] at hl;cases hl;exact S2
   . rw[show forms.lookup ("write":Str)=some [("name":Str),"field","value"] by decide] at hl;cases hl;exact S3
   . rw[show forms.lookup ("new":Str)=some [("name":Str),"value","value"] by decide] at hl;cases hl;exact S4
   . rw[show forms.lookup ("free":Str)=some [("name":Str)] by decide] at hl;cases hl;exact S5⟩}
 obtain⟨_,_,kV,dc,pm,an,cd,ct,_,rfl,_,_⟩:=id bz.ex;refine⟨CI "law" "law" (ot sLaw) (lj sLaw) (iw sLaw) .none kV dc pm an cd ct,fun s v=>.of_eq rfl,fun base _ _=>?_⟩;have O1:FC K mg w 1 "is_name" (spB1 i8):=F1.of C.gf ["text"] (a8q C);have O2:FC K mg w 1 "names_of" (wq K):=F2.of C.gf ["telling"] (a4o C);have U:TxF K mg y aA:=⟨⟨Q,Z,R,J⟩,S,ab,N,L,Dt X G O,⟨Y,b1,br,I⟩⟩
 have T:TxM K mg a al:=⟨⟨u,d,g,q⟩,j,p,m,c,z,Dt X G f,⟨o,aM,bB,i⟩⟩
 have O5:=a5k C F5;have s0:FC K mg w 1 "all_deeds" (spAll K []):=F9.of C.gf ["deeds"] fun _=>acm;have s1:=u7 (n:=0) (b:=30) (bs:=B 0) C F9 O5 s0;have s2:=u7 (n:=1) (b:=30) (bs:=B 1) C F9 O5 s1;have s3:=u7 (n:=2) (b:=30) (bs:=B 2) C F9 O5 s2;have s4:=u7 (n:=3) (b:=30) (bs:=B 3) C F9 O5 s3;have s5:=u7 (n:=4) (b:=30) (bs:=B 4) C F9 O5 s4;have cw:=a33 C bD O2;have cf:=a5m (n:=5) (bs:=B 5) (by decide) C bb O2 s5 cw O1;have cI:=aex C bX;have b2:=a6s C ba O5;have bS:=a93 C aI b2;have af:=a8p C b0;have bW:=a4q C bJ b2 bS af;have w0:FC K mg w 1 "own_deeds" (spCopy K []):=F7.of C.gf ["deeds"] fun _=>aam;have v1:=tw (n:=0) (bs:=B 0) C F6 w0;have w1:=r0 (n:=1) (b:=30) (bs:=B 0) (by decide) C F7 v1;have v2:=tw (n:=2) (bs:=B 1) C F6 w1;have w2:=r0 (n:=3) (b:=30) (bs:=B 1) (by decide) C F7 v2;have v3:=tw (n:=4) (bs:=B 2) C F6 w2;have w3:=r0 (n:=5) (b:=30) (bs:=B 2) (by decide) C F7 v3;have v4:=tw (n:=6) (bs:=B 3) C F6 w3;have w4:=r0 (n:=7) (b:=30) (bs:=B 3) (by decide) C F7 v4;have v5:=tw (n:=8) (bs:=B 4) C F6 w4;have w5:=r0 (n:=9) (b:=30) (bs:=B 4) (by decide) C F7 v5;have O3:=aa7 C F3;have O4:=a9f C F4 O3;have O8:=a35 C F8;have aq:=acw U bQ O3;have ap:=a9l U bv bS;have ao:=aap U bY bW;have aG:=a8v (n:=7) (bs:=B 5) (by decide) C U bj bW (cf.mono (by decide));have eV:=abw C T U aJ;have c5:=acy C T bt;have ac:=acb C T U aK ap;have cQ:=a72 C T U be aq;have dR:=aai C T U bg ap;have ey:=a7h C U bx O4 ao af;have ep:=a91 (n:=8) (by decide) C T U bN aq ao af aG;have bi:=adl (n:=10) (by decide) C T U aL ac ap aq ey ep cQ ao dR O8 af;have b6:=a6l (n:=11) (bs:=B 5) C T U aY w5 cI (aG.mono (by decide));have ah:FC K mg w 1 "_law_cell_at" (uc K):=bO.of C.gf ["_law_script","_law_k"] (a8e C);have cJ:=ad1 C aF;have aj:=adz C bp cJ;have aa:=aa6 C bM;have el:=a68 C aV;have eu:=aaw C aU aj aa el;have c0:=a8u C T U bF ac;have eY:=a9o C bd aa;have dD:=a7i C bn;have cK:=acx C aR aj aa dD eY;have cc:=ado C bh ah cK;have cy:=a7t C bA;have cF:=adr C bo cy;have bf:=aak C bq aa;have eJ:=a9n C aW ah aj aa bf;have ev:=a7j C bL ah aj bf;have eR:=afy (n:=11) (by decide) C T bE ac bi;have dh:=ack C T bZ ac c0 eV c5;have cY:=a9u C bU;have x0:FC K mg w 1 "_law_emptied" (spEmp K []):=E.of C.gf ["_law_deeds"] fun _=>ad5;have x1:=u8 (n:=0) (b:=30) (bs:=B 0) (by decide) (by decide) C E x0;have x2:=u8 (n:=1) (b:=30) (bs:=B 1) (by decide) (by decide) C E x1;have x3:=u8 (n:=2) (b:=30) (bs:=B 2) (by decide) (by decide) C E x2;have x4:=u8 (n:=3) (b:=30) (bs:=B 3) (by decide) (by decide) C E x3;have x5:=u8 (n:=4) (b:=30) (bs:=B 4) (by decide) (by decide) C E x4;have y0:FC K mg w 1 "_law_copied" (spCop K []):=F.of C.gf ["_law_deeds"] fun _=>ad4;have y1:=u6 (n:=0) (b:=30) (bs:=B 0) (by decide) C F y0;have y2:=u6 (n:=1) (b:=30) (bs:=B 1) (by decide) C F y1;have y3:=u6 (n:=2) (b:=30) (bs:=B 2) (by decide) C F y2;have y4:=u6 (n:=3) (b:=30) (bs:=B 3) (by decide) C F y3;have y5:=u6 (n:=4) (b:=30) (bs:=B 4) (by decide) C F y4;exact af3 (n:=13) (by decide) (by decide) (by decide) C T U bz ah eu cc eJ ev cF x5 y5 dh cY b6 bi eR
theorem walk{l:Hi}{K:Params->Ab}(hn:l.most=some 63)(b:d.params.defaults=[])(i:∀(w:KY) (h:KU),g w h->(K w.params).In h)(F:∀(w:KY) (mg:Str->Option KB) (e:KA) (h:KU),(K w.params).In h->h.Ns KH mg->mg d.name=some (.ref e)->
 ∃fd:Kr,(∀(s:KG) (u:KB),BindsTo s fd ⟨[u],[]⟩ [("_law_script",u)])/\∀base:KU,(K w.params).In base->base.Ns KH mg->FnOk l.prog w (K w.params) mg base CX0 15 e fd ["_law_script"] (a1b (K w.params))):
 JQ q c m g l.row.toRowW d [] (fun f vs=>JA f vs) :=
 L2.walk_of (n:=63) (k:=15) (x := "_law_script") (CX:=fun _=>CX0) (sp:=fun w=>a1b (K w.params)) hn (by decide) b ⟨rfl,by decide,by decide⟩ i F (fun _ _ a ns hl _ j=>⟨a,ns,rfl,j,fun _=>rfl⟩) fun _ _ _ _ _ z=>z
end K55
end
open PySem PySem.W PyProof.Rows
structure PySem.W.Fast:Prop where(tw11912645820602040083 tw17636391585963455512 tw9840846918961851502 tw14426060398597096881 tw16347158221163573330 tw6980383461509349435 tw16656671275603596996 tw14833362498301863926 tw11813946393698458009 tw9303028763156038736 tw1706490408491327823 tw1375079207537496961 tw13106728944057619367 tw11221801556318760742 tw853129901670531388 tw2854300313798084650 tw100009828802514647 tw8742868857894824923 tw2984538349229363181 tw3486909673758435796 tw10049882768540932891 tw6500139675414458168 tw1971330288497326931 tw15066514283338435837 tw11817188627905078108 tw3288265474145284368 tw3705611870885613610 tw9745516466222021010 tw5040246106343633567 tw438199824059013376 tw13094143663165572912 tw7700021571707323495 tw16223101689377709401 tw14217938857897876261 tw8143793644663698634 tw12148290797005004160 tw13817789811207391793 tw16888583995114113694 tw12573800764031392424 tw10957878091759258609 tw1381534613086064490 tw13307487950477060039 tw7862024593880243690 tw9136608767709627149 tw17732769835402097715 tw17990369624712236953 tw17474899528388005263 tw15514037423931972574 tw9707604269995570987 tw15023736759197461767 tw15014357855027096126 tw15553408755457459936 tw12374632578697615235 tw7086789744720458097 tw5870337022688681821 tw11361321535620943536 tw17296178339747878518 tw5412785532457583247 tw6421783682182325612 tw11621652378000693991 tw18055028057779212304 tw3877870655389399481 tw16426555262810558260 tw11849768479563890643 tw9160548025011846065 tw7897051222380836211 tw13413568902626981438 tw1672982843034854525 tw6373861628967364005 tw773687827812283622 tw12438629315429015123 tw10410653895536795142 tw6123863256316752253 tw13434064231472653182 tw16516083748685532711 tw9883141623172502259 tw12567371554268302011 tw16390908781349511463 tw16949576312158694671 tw7686660336846077251 tw1896475064522638982 tw2217849942710423142 tw1796227540586715227 tw18037733965309080676 tw16684940478794162171 tw2209589595898230634 tw14158642293670149998 tw8618511438877748112 tw10157526043072115597 tw12768636442694449611 tw6407008790710440565 tw7568460640554126623 tw14818715034946220437 tw632800351888648913 tw16482536658972430339 tw357251629019246218 tw9469352721441679383 tw4794191426834886355 tw9766686381385333803 tw464856816430983366 tw8222430796620274811 tw5613780389909367248 tw9403367083767509973 tw9742394033266378431 tw16180819934084023267 tw1772246250635421159 tw14268294425609242914 tw16895104731506340970 tw1927092270468462072 tw4470442489606661437 tw14145071699947424682 tw16123569030244745601 tw12730349656146653398 tw14656893447356632352 tw10518794850369696949 tw348010080572782882 tw6857676075383157246 tw1129950778062811009 tw17013805336990298301 tw4549968180724566462 tw13978679449060986145 tw435657997918350496 tw18130896936133284862 tw11842322440788118672 tw840597733309078593 tw17799481046283958363 tw5588777292590569348 tw7781995224196865111 tw3230458680748228302 tw14651450137964471830 tw1463647097559485175 tw6576911343456223300 tw1503610278400028556 tw16660536072484039553 tw2817801656341347141 tw1991305403722260363 tw12787852731132794047 tw9024668184363268305 tw7349088157765292080 tw5185373994229689609 tw12747968771745608591 tw5852220440995209260 tw9456098010895889758 tw3271384081578833035 tw12437379924992918741 tw16286915563049040725 tw7054417390094096380 tw7821285282524531284 tw7338419728457210414 tw6549407219787509959 tw9595915441708065978 tw18277729906110712090 tw13533478674853064233 tw10596929450103080603 tw5521723727263072287 tw18176421159295256492 tw12947505772843277072 tw631973079722405141 tw8610904627256226467 tw8439863442193214232 tw18236200482366961313 tw8588521068036723382 tw17345818023560875146 tw935323398324293663 tw7628014098445187464 tw14458298461333556163 tw13846419062890393835 tw12878621575676157302 tw11931935247088492335 tw14148837362359519415 tw936143923948912766 tw7718674720613128152 tw4937641020273726160 tw11383078992208088518 tw5457069445577747650 tw6756477180476990032 tw12757065095212682870 tw17182090045030415135 tw10974675348361564008 tw7947077840354454592 tw175761398810688464 tw15553953800662718116 tw960706332400558166 tw7062612815562789280 tw6728131322701957742 tw11108433699273707942 tw492154142858660117 tw7339334197413535061 tw12012143729681153531 tw4988548716336453121 tw14953099288472004972 tw886424813237431724 tw17311254401498195024 tw65114536156285502 tw10301473083325650076 tw38830883797749962 tw15102146146254872799 tw6742280388737362560 tw15513155521071321157 tw11041549717370093317 tw8508892373811236726 tw5379594551785603794 tw10040493001033591700 tw12899366693339256446 tw17479148154259084327 tw17009393458765099395 tw378014075018521389 tw12241366257576157305 tw14337621016449710155 tw15610879873800883583 tw9270773192533571887 tw348666072387698914 tw10550294729665746826 tw4728527136885230144 tw1982755063126170768 tw16123870842005447546 tw1749651995773248016 tw18086721509097680504 tw8514773114299906402 tw15898671595154623293 tw13352341849378167264 tw7348685216783042739 tw3502992578331339626 tw15637886434994333398 tw9870290828047663924 tw18023578515443203192 tw3023987924931183507 tw2321907586797135836 tw18239102328881476428 tw13576688630906374535 tw14166078038234811667 tw7781374332663261769 tw3496070099467507854:True)
set_option maxRecDepth 100000 in
set_option maxHeartbeats 0 in
theorem PySem.Challenge.cw_apart_k55_machines_keep_their_own_holds : PySem.Challenge.rw_apart_k55_machines_keep_their_own.Holds := by
 w_on; o_law; k_head; (case hw => w_witness2)
 k_fill
 refine K55.walk (l := PySem.Challenge.rw_apart_k55_machines_keep_their_own) rfl rfl (fun w h Y => PySem.W.kIn_of Y) ?F
 case F =>
   intro w mg fa h KX G hmg
   refine' K55.all_mk KX G hmg ..
   all_goals first
     | (refine' ⟨?_, ?_, ?a, L2.fun_mk ?l ?c ?k⟩; (case a => first | (show PySem.W.nsIn _ _ _ = _; k_is) | (refine ⟨?x, ?y⟩; (case x => k_is); (case y => k_is))); (case l => k_is); (case c => k_is); (case k => k_is))
     | (refine' L2.fun_mk ?l ?c ?k; (case l => k_is); (case c => k_is); (case k => k_is))
     | k_is
     | rfl
     | decide
     | decide +kernel
     | exact ⟨⟨_, _, rfl, rfl⟩, ⟨_, _, rfl, rfl⟩, ⟨_, _, rfl, rfl⟩, ⟨_, _, rfl, rfl⟩, ⟨_, _, rfl, rfl⟩, trivial⟩
     | exact ⟨⟨_, _, rfl, rfl⟩, ⟨_, _, rfl, rfl⟩, ⟨_, _, rfl, rfl⟩, trivial⟩
     | exact K55.rel_find (.cons ⟨_, _, _, rfl, rfl⟩ (.cons ⟨_, _, _, rfl, rfl⟩ (.cons ⟨_, _, _, rfl, rfl⟩ (.cons ⟨_, _, _, rfl, rfl⟩ (.cons ⟨_, _, _, rfl, rfl⟩ .nil)))))
     | exact K55.rel_find (.cons ⟨_, _, _, rfl, ⟨_, rfl⟩⟩ (.cons ⟨_, _, _, rfl, ⟨_, rfl⟩⟩ (.cons ⟨_, _, _, rfl, ⟨_, rfl⟩⟩ .nil)))
     | (repeat (first | exact .nil | refine .cons ⟨_, rfl⟩ ?_)
        done)
     | skip
