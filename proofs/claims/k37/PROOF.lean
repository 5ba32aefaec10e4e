import PyProof.Rows.All
import Wide.All
import OpenK.AllK
import Wide.FinOn
import Lean
import PyProof.EqAt
import PyProof.EqKinds
import PyProof.TupleCall
import PySem.Challenge.RW_apart_k37_whole_heaps_fit
local macro_rules|`(tactic|exists $e,*)=>`(tactic|refine#[$e,*, ?_])
set_option maxHeartbeats 16000000
set_option Elab.async false
set_option linter.all false
set_option bootstrap.genMatcherCode false
set_option compiler.extract_closed false
set_option maxRecDepth 100000
set_option autoImplicit true
noncomputable section
open Lean in
def toPt:Nat->Syntax->MacroM (TSyntax `rcasesPat)
|0,_=>Macro.throwUnsupported
|n+1,x=>match x with
 |`(_)=>`(rcasesPat|_)
 |`($i:ident)=>`(rcasesPat|$i:ident)
 |`(($a,$b,*))=>do
  let l<-([a].toArray++b.getElems).mapM (toPt n)
  let m:TSyntaxArray `Lean.Parser.Tactic.rcasesPatLo<-l.mapM fun p=>`(Lean.Parser.Tactic.rcasesPatLo|$p:rcasesPat)
  `(rcasesPat|⟨$m,*⟩)
 |_=>Macro.throwUnsupported
open Lean in
local macro_rules|`(tactic|let $c:letConfig $d:letDecl)=>do
  let s:=d.raw[0]
  if s.isOfKind `Lean.Parser.Term.letPatDecl then
   let p<-toPt 9 s[0]
   let q<-`(Lean.Parser.Tactic.rcasesPatMed|$p:rcasesPat)
   let e:Term:=⟨s[4]⟩
   `(tactic|obtain $q:rcasesPatMed:=$e) else `(tactic|have $c:letConfig $d:letDecl)
local macro_rules|`(#[$a,*])=>`(⟨$a,*⟩)
local macro_rules|`(tactic|nofun)=>`(tactic|extract_lets)
open Option renaming some->eV,none->eW
open Bool renaming true->eX,false->eY
open _root_ renaming List->eZ,Option->fA,Int->fB,Nat->fC,if_neg->fD,if_pos->fE,absurd->fF,decide_eq_false->fT,decide_eq_true->fU,of_decide_eq_true->fV,of_decide_eq_false->fW,congrArg->fX,Array->fY,decide_eq_true_eq->fZ,or_false->gD,Bool->gQ
open PySem renaming Str->fS
abbrev fG:=eZ (eZ PySem.Str)
abbrev fH:=eZ (PySem.Str×PySem.Str)
abbrev fJ:=eZ PySem.Str
theorem fR{α:Sort u}{a:α}:a=a:=rfl
open PySem.W renaming Frag->Aa,mg_none_of->AR,findIn->AS,nsIn->AY,emptyDict->BM,keepIn->BU,instObj->Ce,fnOf->Cq,hideAll->Cs,plainGet->CG,hasDictIn->Dc,excIn->Dx,mg_of->Dz,hideAll_get->D8,plainOver->DT,makesIn->Em,plainGet_of->E5,lookIn->E7,callWith_K->EL,methodObj->EY,isFn->Fj,takerIn->FC,OpenLaw->FE,cellsFrom_some->FH,methodCall_KW->FS,codeIn->FT,hideAll_none->Gc,of_hideAll->Hb,handedIn->HG,WalkO->Iz
open List renaming mem_append->Ab,length_map->Ad,mem_singleton->Ae,mem_cons_self->Af,mem_cons_of_mem->Ag,getElem?_eq_getElem->Ah,length_append->Aj,mem_cons->Ak,getElem?_eq_some_iff->Ao,getElem?_map->Ap,not_mem_nil->Aq,mem_of_getElem?->Ar,mem_map->As,length_cons->Au,length_singleton->Av,map_append->Ax,size_toArray->A0,append_nil->A2,append_assoc->A4,map_cons->A5,getD_eq_getElem?_getD->A7,length_take->AG,getElem_mem->AH,nodup_cons->AK,take_add_one->AL,nodup_append->AN,any_eq_true->AV,take_length->AW,find?_cons->Ba,range->Bb,mem_filter->Bc,nodup_nil->Bh,mem_of_find?_eq_some->Bj,all_eq_true->Bo,mem_of_mem_take->Bp,mem_range->Br,map_map->Bu,reverse_cons->Bw,mem_append_right->Bx,length_drop->By,mem_flatten->Bz,take_of_length_le->B0,length_filter_le->B4,length_range->B6,find?_eq_none->BA,map_nil->BF,filterMap_cons->BN,flatten_append->BO,getElem?_eq_none->BP,mem_filterMap->Cc,take_zero->Cd,eq_nil_of_length_eq_zero->Ci,map_congr_left->Cm,singleton_append->Cw,find?_some->Cy,flatten_cons->CB,getElem?_of_mem->CD,mem_of_mem_drop->CF,filter_sublist->CL,length_reverse->CM,map_inj_right->CV,nil_append->CY,length_pos_of_mem->CZ,getElem?_toArray->Dh,any_map->Dj,filterMap_append->Dl,filter_cons->Dt,any_cons->Dw,lookup->D6,reverse_append->DA,getElem?_eq_none_iff->DC,length_nil->DE,drop_eq_getElem_cons->DF,filterMap_map->DH,length_erase_of_mem->DN,drop_zero->DQ,getElem?_cons_succ->DR,filter_congr->DV,reverse_singleton->DY,cons_append->DZ,nodup_range->Ea,eraseIdxIfInBounds_toArray->Ek,filter_map->Ez,mem_erase_of_ne->E1,all_map->E2,filterMap->ED,length->EJ,length_eraseIdx_of_lt->ET,sum_cons->EU,map_take->EW,map_drop->EX,take_sublist->Fb,foldl_append->Fg,of_mem_zip->FD,getElem?_set_self->FG,length_eq_one_iff->FJ,drop_eq_nil_of_le->FO,flatten_singleton->FQ,take_append_drop->Ga,mem_append_left->Gg,getElem?_set_ne->Gh,mem_iff_getElem->Gn,getElem?_range->G9,getElem_of_mem->GD,filterMap_some->GX,filter_append->Hl,ext_getElem?->Hv,find?_isSome->Hy,find?_append->Hz,pairwise_map->HA,getElem_inj->HE,lookup_cons->HL,zipIdx_cons->HN,drop_length->HQ,countP_cons->HR,cons_ne_nil->HS,filter_nil->Ig,zipIdx_nil->Ii,forIn_cons->Ij,forIn_nil->Ip,all_cons->Iy,map_id->IL,filter->IM
open PySem renaming wpAny_bind->Ac,wpAny_pure->Al,Spec->A9,boot_len->AJ,wpAny_newObj_type->AX,wpAny_setField_rec->Bi,wpAny_call_entry->Bn,wpAny_field->Bs,wpAny_callSpecial?_slot->Bt,wpAny_mono->B2,mem_of_lookup->BD,wpAny_holding->BH,wpAny_truthy_bool->BL,wpAny_seqItems->BX,codeAny_builtin->Cf,wpAny_passesOwn->Ct,builtinLookup_eq_fast->Cu,plainId_quiet->CO,wpAny_attempt->CP,wpAny_rule->CQ,tupleKind_room_in1->CT,wpAny_typeNameOfWhole_keyiter->Da,wpAny_setState_of->De,wpAny_Call_method->Df,codeAny_mono->Dg,wpAny_isInstance->Ds,sizeLine_eq->D3,typeLookup_type->DD,wpAny_Call_Name_kw->DG,call_meetsIn->DL,wpAny_typeNameOf_keyiter->DM,wpAny_pyIter_list->DS,wpAny_isOneOf_keyiter->Ec,wpAny_execs_nil->El,wpAny_typeOf->Eo,wpAny_specialOf->Es,wpAny_setEntries_of->E6,isSubtype_type->E8,wpAny_fieldsOf->EB,isSubtype_stop->EC,wpAny_setField->EF,wpAny_pyIter_tuple->EK,wpAny_assign_Name->EZ,fits_of_scanBound->Fc,wpAny_pyIter_slot->Fd,wpAny_setEpoch_of->Fe,wpAny_askSetting->Fm,wpAny_of_eq->FI,wpAny_isTrue_Compare1->FR,entryFor_alias->FV,wpAny_notOrdered_dict->FY,typeIs_str->Gi,call_meets->Gj,lookup_relabel_local->Gk,codeAny_call_builtin->Gp,wpAny_pyIter_keyiter->Gq,wpAny_updateSeq_pair->Gu,wpAny_standAt->Gv,wpAny_onRaise->Gx,wpAny_raiseNew_none->GV,Within->Ha,seqIndex_neg->Hi,putSet_of->Hj,slot_list_getitem->Hr,wpAny_storeSet_of->Ht,wpAny_dictEntries->Hw,seqIndex_of->HD,wpAny_execs_cons->HF,wpAny_Dict_empty->HK,wpAny_pyIter_zip->HP,wpAny_Name->HU,wpAny_load->HV,wpAny_call->HW,call->HZ,strKind_is->Ic,KeyKind->Iv,Builtin->IA
open PySem.Heap renaming get?_push_of_some->Ai,get?_push_size->Ay,lt_size->Az,size_push->B1,SameBut->BE,get?_update_self->BG,get?_update_other->BZ,ExtBut->FM,get?_none_of_le->Ge,IsTuple->IH
open Option.some renaming inj->Am
open Nat renaming le_refl->An,le_trans->AA,ne_of_lt->AB,lt_of_lt_of_le->AD,zero_le->AF,lt_of_le_of_lt->AI,lt_irrefl->AZ,le_of_lt->B7,lt_succ_self->BB,ne_of_gt->BQ,le_add_right->Cb,lt_succ_of_lt->C0,mul_le_mul_right->Du,add_le_add_left->D9,lt_trans->DK,le_succ->DW,sub_zero->Eu,min_eq_left->Ey,le_of_not_lt->Fk,min_eq_right->Fp,zero_add->Ft,not_lt_zero->FF,max_le->Gr,le_of_eq->Hf,succ_pos->Hn,lt_or_gt_of_ne->Ho,min_le_right->HH,min_le_left->Ie,sub_self->IE,succ_mul->IF
open Bool renaming false_ne_true->Aw,eq_iff_iff->Bm,and_eq_true->Bv,false_eq_true->B9,false_or->Dy,or_eq_true->Ik,false_and->Il,and_false->Im,or_false->Iw,true_and->IB,true_or->ID
open PySem.PassesOwn renaming never->A1
open PySem.Paired renaming length->A3,snoc->IK
open PySem.F renaming plainAttrs_list->A8,slot_list_append->AO,type_list_append->AQ,plainAttrs_dict->Cj,slot_tuple_iterator_next->Cz,slot_list_extend->CJ,type_list_extend->CK,slot_list_pop->CN,slot_dict_pop->Di,slot_enumerate_next->Dq,slot_NoneType_hash->Dv,slot_dict_keyiterator_next->DU,slot_dict_get->Eb,type_list_pop->Eh,slot_zip_next->E3,slot_dict_setdefault->EE,args_tuple_iterator_next_1->EH,entry_tuple_iterator_next->EN,plain_extend_loop->Fh,slot_dict_update->Fu,plain_list_iadd->Fw,args_dict_pop_3->Fy,args_dict_get_3->Fz,args_enumerate_next_1->F0,entry_dict_pop->FK,entry_dict_get->FL,slot_dict_iter->FN,entry_enumerate_next->FP,plain_set_new->FU,slot_set_iter->FW,type_dict_pop->FX,args_zip_next_1->HC,entry_list_pop->HJ,entry_zip_next->HM
open Array renaming length_toList->AC,getElem?_toList->B3,eq_empty_of_size_eq_zero->Er,getElem?_eq_getElem->Fi,toList_append->GQ,append_assoc->Hd,find?_toList->He,toList_push->Hs,toList->IC
open Ne renaming symm->AE
open Int renaming emod_nonneg->AM,emod_lt_of_pos->AU,toNat_natCast->Bf,toNat->CS,zero_add->Dk,fdiv_eq_ediv_of_nonneg->ER
open Option renaming isSome_iff_exists->Bd,isSome_map->CA,getD_some->CI,map_eq_some_iff->DX,map_some->Ew,getD_none->HI
open PyProof.Rows renaming boot_list->Be,callWith_type1->BY,boot_set->Ee,boot_any->Ef,boot_int->Eg,boot_all->Ei,slot_tuple_getitem->Ej,boot_sorted->Fq,boot_sum->Gb
open PySem.PyData renaming canLayAll0->Bg,depthAll->Bq,canLay0->BK,depth->Ca,eqv->Et,strOk->IG
open Prod.mk renaming injEq->Bk
open PySem.Builtin.SmallTypes renaming ownedTupleIsFree->Bl,nextOf->BC,ownedTupleHandOut->DO
open Sum.inl renaming inj->B5
open PySem.Calls renaming spliced_cons->B8,callWith_builtin->BJ,evalArgs_plain->BV,spliced_nil->Cg,Name_function_global->EO
open PySem.Str renaming ofString->BI,length->Cp,cps_append->EG,empty->Ir
open Sum.inr renaming inj->BR
open False renaming elim->BS
open PySem.Around renaming under_plainId->BW,under->Hg
open PySem.Heap.SameBut renaming update->Ck
open PySem.SetTable renaming grown->Co,below->EA
open PyProof.Rows.F renaming plain_set_update_loop->Cr,entry_set_update_loop->DJ
open PySem.Builtin.Slice renaming slicePlaces->CC,sliceAdjust->DB,sliceApplied->ES
open PySem.Builtin.Tuple renaming tupleExact->CH
open PySem.Obj renaming data_mapFields->CU,mapSeq->DP,isFreed_of_fields->Ed,putSet->Ep,mapFields->EV,cls_mapFields->Ff
open List.Sublist renaming nodup->CW
open PySem.Builtin.List renaming listTooLong->DI,listExtendWith->EM,listSameRef->Fo
open PySem.Value renaming isStrOf_shape->E4,isInt_shape->Hq,isStrOf->Iu,isInt->II
open List.Perm renaming refl->E9
open Prod renaming fst->EI
open PySem.Builtin.Frozenset renaming sizeOf->Fn
open PySem.Builtin.Dict renaming updateFrom->FA,showsAll->FZ
open PySem.Shared renaming TypeIs->Gw,heap->IP
open PySem.SeqAt.EqAt renaming none_int->Gy,none_str->Gz,int_none->G7,str_none->G8,int_str->GY,str_int->GZ,same->HX
open PySem.Code renaming isFrame->Hh,frames->IJ
open PySem.pickOrder renaming go->Hk
open List.Nodup renaming sublist->Hm
open PySem.SetTable.below renaming go->Hu
open List.Pairwise renaming imp->HB
open PySem.SeqAt renaming in_listAt->HY,EqAt->IQ
open PySem.Walks renaming list->Ib
open List.cons renaming injEq->Ih
open Eq renaming symm->Io
open PySem.Manifest renaming find?->Iq
open PySem renaming sizeLine->IR,Addr->IS,Value->IT,wpAny->IU,model->IV,starEach->IW,Shared->IX,mainGlobals->IY,Paired->IZ,Stmt->JA,assignEach->JB,foldedSetIterable->JC,compareOp->JD,behindInMarks->JE,backTo->JF,Heap->JG,Program->JH,sysModules->JI,attributeBase->JJ,relabel->JK,World->JL,pyNext->JM,swapsWith->JN,FuncData->JO,keywordEach->JP,binaryOp->JQ,codeAny->JS,strKind->JT,rawInt->JU,sliceBounds->JV,Around->JW,IsPair->JX,backToKw->JY
noncomputable section
local macro_rules | `(tactic| decide) => `(tactic| decide +kernel)
open PySem PySem.Spec
namespace L2
open PyProof.Rows
theorem ta0_(h:True:=by first|exact .inl rfl|exact .inr rfl|assumption):True:=#[]
def a0_:=ta0_._auto_1
theorem ta1_(h:True:=by decide):True:=#[]
def a1_:=ta1_._auto_1
theorem ta2_(h:True:=by first|exact nobehind _ (by decide) (by decide)|rfl):True:=#[]
def a2_:=ta2_._auto_1
theorem ta3_(h:True:=by intro _;rfl):True:=#[]
def a3_:=ta3_._auto_1
theorem ta4_(h:True:=by rfl):True:=#[]
def a4_:=ta4_._auto_1
theorem ta5_(h:True:=by first|exact Or.inl rfl|exact Or.inr (Or.inl rfl)|exact Or.inr (Or.inr rfl)):True:=#[]
def a5_:=ta5_._auto_1
theorem ta6_(h:True:=by exact .inl rfl):True:=#[]
def a6_:=ta6_._auto_1
theorem ta7_(h:True:=by exact λ_ _=>rfl):True:=#[]
def a7_:=ta7_._auto_1
theorem ta8_(h:True:=by with_unfolding_all rfl):True:=#[]
def a8_:=ta8_._auto_1
theorem ta9_(h:True:=by exact#[fR,fR,fR,fR]):True:=#[]
def a9_:=ta9_._auto_1
theorem ta10_(h:True:=by repeat' first|with_unfolding_all rfl|constructor):True:=#[]
def a10_:=ta10_._auto_1
theorem ta11_(h:True:=by intro _ _ _ _ _ _ us hl;rcases us with _|⟨_,_|⟨_,_|⟨_,_|⟨_,_|⟨_,_|⟨_,_|⟨_,_⟩⟩⟩⟩⟩⟩⟩<;>first|rfl|cases hl):True:=#[]
def a11_:=ta11_._auto_1
abbrev Key:=Sum fB fS
def sj:Key->IT->gQ
 |.inl k,v=>II k v
 |.inr x,v=>Iu x v
def keyH(w:JL):Key->fB
 |.inl k=>hashInt k
 |.inr x=>hashStr w x
theorem jr:∀{k:Key}{v:IT},sj k v=eX->(∃i t,k=Sum.inl i/\v=Value.int i t)\/(∃x t,k=Sum.inr x/\v=Value.str x t)
 |.inl i,v,h=>by
  let(t,e):=Hq (k:=i) (v:=v) h;exact .inl #[i,t,fR,e]
 |.inr x,v,h=>by
  let(t,e):=E4 (x:=x) (v:=v) h;exact .inr #[x,t,fR,e]
theorem a5w(i:fB)(t:Tok):sj (.inl i) (.int i t)=eX:=by simp[sj,II]
theorem a7v(x:fS)(t:Tok):sj (.inr x) (.str x t)=eX:=by simp[sj,Iu]
theorem afd(a b:fB):decide ((Sum.inl a:Key)=Sum.inl b)=(a==b):=by
 by_cases e:a=b;subst e;simp;let h:¬ (Sum.inl a:Key)=Sum.inl b:=λq=>e (B5 q);rw[fT h];exact(beq_eq_false_iff_ne.mpr e).symm
theorem aek(a b:fS):decide ((Sum.inr a:Key)=Sum.inr b)=decide (a=b):=by
 by_cases e:a=b;subst e;simp;let h:¬ (Sum.inr a:Key)=Sum.inr b:=λq=>e (BR q);rw[fT h,fT e]
theorem aff(a:fB)(b:fS):decide ((Sum.inl a:Key)=Sum.inr b)=eY:=fT (λq=>nomatch q)
theorem afi(a:fS)(b:fB):decide ((Sum.inr a:Key)=Sum.inl b)=eY:=fT (λq=>nomatch q)
def i4(prog:JH)(w:JL):Iv prog w Key where
 is:=sj
 hash:=keyH w
 inj:=λv a b ha hb=>by
  rcases jr ha with⟨i,t,rfl,rfl⟩|⟨x,t,rfl,rfl⟩
  . rcases jr hb with⟨j,u,rfl,e⟩|⟨y,u,rfl,e⟩
    . injection e with e1 _;rw[e1]
    exact nomatch e
  rcases jr hb with⟨j,u,rfl,e⟩|⟨y,u,rfl,e⟩
  . exact nomatch e
  injection e with e1 _;rw[e1]
 byValue:=λk v h=>by
  rcases jr h with⟨i,t,rfl,rfl⟩|⟨x,t,rfl,rfl⟩<;>rfl
 pyHash:=λhv h=>by
  rcases jr hv with⟨i,t,rfl,rfl⟩|⟨x,t,rfl,rfl⟩
  . exact wpAny_pyHash_int h
  exact wpAny_pyHash_str h
 eqBool:=λhu hv h=>by
  rcases jr hu with⟨i,t,rfl,rfl⟩|⟨x,t,rfl,rfl⟩
  . rcases jr hv with⟨j,u,rfl,rfl⟩|⟨y,u,rfl,rfl⟩
    . rw[afd] at h;exact wpAny_eqBool_int h
    rw[aff] at h;exact GY i t y u _ _ _ _ h
  rcases jr hv with⟨j,u,rfl,rfl⟩|⟨y,u,rfl,rfl⟩
  . rw[afi] at h;exact GZ x t j u _ _ _ _ h
  rw[aek] at h;exact wpAny_eqBool_str h
 «strs» := λk x t v h=>by
  rcases jr h with⟨i,u,rfl,e⟩|⟨y,u,rfl,e⟩
  . exact nomatch e
  injection e with e1 _;subst e1;cases v<;>rfl
theorem a4g(prog:JH)(w:JL)(k:Key)(v:IT):(i4 prog w).is k v=sj k v:=rfl
theorem a22(prog:JH)(w:JL)(i:fB)(t:Tok):(i4 prog w).is (.inl i) (.int i t)=eX:=a5w i t
theorem a24(prog:JH)(w:JL)(x:fS)(t:Tok):(i4 prog w).is (.inr x) (.str x t)=eX:=a7v x t
inductive V where
 |non|bl (b:gQ)|int (i:fB)|str (x:fS)|byt (b:fY UInt8)|flt (b:UInt64)|ref (a:IS)|ty (n:String)
 deriving DecidableEq
def RelV:V->IT->Prop
 |.non,u=>u=Value.none
 |.bl b,u=>u=Value.bool b
 |.int i,u=>∃t,u=Value.int i t
 |.str x,u=>∃t,u=Value.str x t
 |.byt b,u=>∃t,u=Value.bytes b t
 |.flt b,u=>∃t,u=Value.float b t
 |.ref a,u=>u=Value.ref a
 |.ty n,u=>u=Value.type n
abbrev Vals:eZ V->eZ IT->Prop:=IZ RelV
theorem Vals.length(r:Vals xs us):xs.length=us.length:=A3 r
theorem Vals.get:∀{xs:eZ V}{us:eZ IT}{i:fC}{x:V},Vals xs us->xs[i]?=eV x->∃u,us[i]?=eV u/\RelV x u
 |_,_,_,_,.nil,e=>by simp at e
 |_,_,0,_,.cons r _,e=>by simp at e;subst e;exact#[_,fR,r]
 |_,_,i+1,x,.cons _ t,e=>by
  let(u,h1,h2):=Vals.get (i:=i) (x:=x) t (by simpa using e);exact#[u,by simpa using h1,h2]
theorem Vals.set(r:RelV x u):∀{xs:eZ V}{us:eZ IT}(i:fC),Vals xs us->Vals (xs.set i x) (us.set i u)
 |_,_,_,.nil=>.nil
 |_,_,0,.cons _ t=>.cons r t
 |_,_,i+1,.cons q t=>.cons q (Vals.set r i t)
theorem Vals.append:∀{xs ys:eZ V}{us a:eZ IT},Vals xs us->Vals ys a->Vals (xs++ys) (us++a)
 |_,_,_,_,.nil,s=>s
 |_,_,_,_,.cons r t,s=>.cons r (Vals.append t s)
theorem Vals.take:∀{xs:eZ V}{us:eZ IT}(n:fC),Vals xs us->Vals (xs.take n) (us.take n)
 |_,_,0,_=>.nil
 |_,_,_+1,.nil=>.nil
 |_,_,n+1,.cons r t=>.cons r (Vals.take n t)
theorem Vals.drop:∀{xs:eZ V}{us:eZ IT}(n:fC),Vals xs us->Vals (xs.drop n) (us.drop n)
 |_,_,0,r=>r
 |_,_,_+1,.nil=>.nil
 |_,_,n+1,.cons _ t=>Vals.drop n t
def RelO:fA V->fA IT->Prop
 |some v,eV u=>RelV v u
 |none,eW=>True
 |_,_=>False
def KV{κ:Type}:eZ (κ×V)->eZ (κ×IT)->Prop:=IZ λ(p:κ×V) (q:κ×IT)=>p.1=q.1/\RelV p.2 q.2
def kV:Key->V
 |.inl i=>.int i
 |.inr x=>.str x
inductive HO where
 |lst (xs:eZ V)
 |tup (xs:eZ V)
 |dK (kvs:eZ (Key×V))|dT (kvs:eZ (eZ Key×V))
 |set (S:fB->gQ)(n:fC)
 |ins (C dx:IS)(fs:eZ (fS×V))
 |own (x:IS)
 |xd (fs:eZ (fS×V))
 |met (f x:IS)
 |rng (lo hi:fB)
 |frz (o:Obj)(u:HO)
 |tbl (ps:fY IT)
 |ext (φ:JG->Prop)
abbrev Hp:=IS->fA HO
def upd(H:Hp)(a:IS)(o:HO):Hp:=λb=>if b=a then eV o else H b
theorem ad:upd H a o a=eV o:=by unfold upd;rw[fE rfl]
theorem fh(h:b≠a):upd H a o b=H b:=by unfold upd;rw[fD h]
theorem jb{H:Hp}(h:H a=eV o)(h':H b=eV u)(d:o≠u):a≠b:=by
 intro e;subst e;rw[h] at h';exact d (Am h')
theorem gc{H:Hp}(h:H a=eV o)(h':H b=eW):a≠b:=by
 intro e;subst e;rw[h] at h';cases h'
section
variable(P:JH)(w:JL) in
def ObjOk(H:Hp)(h:JG)(a:IS):HO->Prop
 |.lst xs=>xs.length<=IR/\∃(its:eZ IT) (n:fC),Vals xs its/\h.get? a=eV {cls:=.type "list",data:=.seq its.toArray n}
 |.tup xs=>xs.length<=IR/\∃its:eZ IT,Vals xs its/\IsTup h a its.toArray
 |.dK kvs=>kvs.length<=IR/\(a==JI)=eY/\∃vs,KV kvs vs/\h.DictOf (i4 P w) a vs
 |.dT kvs=>kvs.length<=IR/\(a==JI)=eY/\∃xs:eZ (eZ Key×IS×IT),
  IZ (λ(p:eZ Key×V) (q:eZ Key×IS×IT)=>p.1=q.1/\H q.2.1=eV (.tup (p.1.map kV))/\RelV p.2 q.2.2) kvs xs/\
  ∃o es ep,h.get? a=eV o/\o.ExactDict/\o.data=.dict es ep/\es.toList=xs.map (entryOfKey (tupleKind (i4 P w)))/\(xs.map (·.1)).Nodup
 |.set S n=>h.SetOf (intKind P w) a S n
 |.ins C dx fs=>H dx=eV (.own a)/\fs.length<=1000/\dx≠a/\h.get? a=eV (Ce C dx)/\
  ∃mA,h.Ns1 dx mA/\(∀f,RelO (fs.lookup f) (mA f))/\Ha mA (fs.map (·.1))
 |.own _=>∃o,h.get? a=eV o
 |.xd fs=>∃mA,h.Ns1 a mA/\∀f,RelO (fs.lookup f) (mA f)
 |.rng lo hi=>∃t u v,h.get? a=eV {cls:=.type "range",data:=.fields [.int lo t,.int hi u,.int 1 v].toArray}
 |.frz o u=>h.get? a=eV o/\ObjOk H h a u
 |.tbl ps=>h.get? a=eV {cls:=.none,data:=.fields ps}
 |.met f x=>h.get? a=eV (EY (.ref f) (.ref x))
 |.ext φ=>φ h/\(∃o,h.get? a=eV o)/\∀h1 h2:JG,φ h1->(∀o,h1.get? a=eV o->h2.get? a=eV o)->φ h2
def HOk(P:JH)(w:JL)(H:Hp)(h:JG):Prop:=∀a o,H a=eV o->ObjOk P w H h a o
end
section
theorem ObjOk.lt(x:ObjOk P w H h a o):a<h.objs.size:=by
 cases o with|lst xs=>let(_,_,_,_,e):=x;exact Az e|tup xs=>let(_,_,_,p):=x;exact p.lt|dK kvs=>let(_,_,_,_,o,_,_,e,_):=x;exact Az e|dT kvs=>let(_,_,_,_,o,_,_,e,_):=x;exact Az e|set S n=>let(o,_,_,_,e,_):=x;exact Az e|ins C dx fs=>let(_,_,_,e,_):=x;exact Az e|own y=>let(_,e):=x;exact Az e|xd fs=>let(_,(_,_,_,e,_),_):=x;exact Az e|rng lo hi=>let(_,_,_,e):=x;exact Az e|frz ob u=>let(e,_):=x;exact Az e|tbl ps=>exact Az (show h.get? a=eV _ from x)|met f y=>exact Az (show h.get? a=eV _ from x)|ext φ=>let(_,(_,e),_):=x;exact Az e
variable{a:IS} in
theorem Paired.mapP{α β:Type}{F G:α->β->Prop}:∀{c:eZ α}{l₂:eZ β},IZ F c l₂->(∀a b,F a b->G a b)->IZ G c l₂
 |_,_,.nil,_=>.nil
 |_,_,.cons r t,f=>.cons (f _ _ r) (Paired.mapP t f)
theorem ObjOk.stay(x:ObjOk P w H h a o)(k:∀b u,(b=a\/H b=eV (.own a))->h.get? b=eV u->h'.get? b=eV u)(j:∀b,H b=eV (.own a)->H' b=eV (.own a))(i:∀b xs,H b=eV (.tup xs)->H' b=eV (.tup xs)):ObjOk P w H' h' a o:=by
 induction o with
 |lst xs=>let(z,its,n,r,e):=x;exact#[z,its,n,r,k _ _ (.inl rfl) e]
 |tup xs=>let(z,its,r,ob,e,c):=x;exact#[z,its,r,ob,k _ _ (.inl rfl) e,c]
 |dK kvs=>let(z,y,vs,r,ob,es,ep,e,c):=x;exact#[z,y,vs,r,ob,es,ep,k _ _ (.inl rfl) e,c]
 |dT kvs =>
  let(z,y,xs,r,ob,es,ep,e,c):=x;exact#[z,y,xs,Paired.mapP r λp q z=>#[z.1,i _ _ z.2.1,z.2.2],ob,es,ep,k _ _ (.inl rfl) e,c]
 |set S n=>let(ob,es,ep,t,e,c):=x;exact#[ob,es,ep,t,k _ _ (.inl rfl) e,c]
 |ins C dx fs =>
  let(d,z,ne,e,g,(od,es,ep,l,c),r):=x;exact#[j _ d,z,ne,k _ _ (.inl rfl) e,g,#[od,es,ep,k _ _ (.inr d) l,c],r]
 |own y=>let(ob,e):=x;exact#[ob,k _ _ (.inl rfl) e]
 |xd fs=>let(g,(od,es,ep,e,c),r):=x;exact#[g,#[od,es,ep,k _ _ (.inl rfl) e,c],r]
 |rng lo hi=>let(t,u,v,e):=x;exact#[t,u,v,k _ _ (.inl rfl) e]
 |frz ob u ih=>let(e,q):=x;exact#[k _ _ (.inl rfl) e,ih q]
 |tbl ps =>
  let e:h.get? a=eV {cls:=.none,data:=.fields ps}:=x;show h'.get? a=eV {cls:=.none,data:=.fields ps};exact k a _ (.inl rfl) e
 |met f y =>
  let e:h.get? a=eV (EY (.ref f) (.ref y)):=x;show h'.get? a=eV (EY (.ref f) (.ref y));exact k a _ (.inl rfl) e
 |ext φ=>let(p,(o,e),st):=x;exact#[st _ _ p λo q=>k _ _ (.inl rfl) q,#[o,k _ _ (.inl rfl) e],st]
theorem HOk.lt(x:HOk P w H h)(e:H a=eV o):a<h.objs.size:=(x a o e).lt
theorem HOk.fresh(x:HOk P w H h)(e:h.objs.size<=a):H a=eW:=by
 cases q:H a with|none=>rfl|some u=>exact fF (AD (x.lt q) e) (AZ _)
theorem HOk.kept(x:HOk P w H h)(k:∀b u,h.get? b=eV u->h'.get? b=eV u):HOk P w H h':=λa o e =>
 (x a o e).stay (λb u _ q=>k b u q) (λ_ q=>q) λ_ _ q=>q
theorem HOk.laid(x:HOk P w H h)(k:∀b u,h.get? b=eV u->h'.get? b=eV u)(hp:h.objs.size<=a)(new:ObjOk P w (upd H a o) h' a o):HOk P w (upd H a o) h':=λb u e=>by
 let hn:=x.fresh hp;by_cases d:b=a;subst d;rw[ad] at e;cases e;exact new;rw[fh d] at e;exact(x b u e).stay (λc v _ q=>k c v q) (λc q=>by rw[fh (gc q hn)];exact q) λc xs q=>by rw[fh (gc q hn)];exact q
end
def Rd(H:Hp)(a:IS)(u:HO):Prop:=H a=eV u\/∃o,H a=eV (.frz o u)
theorem Rd.ok(r:Rd H a u)(x:HOk P w H h):ObjOk P w H h a u:=by
 rcases r with r|⟨o,r⟩;exact x a u r;let(_,q):=x a _ r;exact q
def Mut:fA HO->Prop
 |some (.lst _)=>True
 |some (.dK _)=>True
 |some (.dT _)=>True
 |some (.set _ _)=>True
 |some (.ins _ _ _)=>True
 |some (.ext _)=>True
 |_=>False
theorem HOk.write(ok:HOk P w H h)(i:Mut (H x))(n:e=x\/H e=eV (.own x))(k:∀b u,b≠e->h.get? b=eV u->h'.get? b=eV u)(l:∃u,h'.get? e=eV u)(new:ObjOk P w (upd H x o) h' x o):HOk P w (upd H x o) h':=λb u q=>by
 let d:∀c y,H c=eV (.own y)->c≠x:=λc y r z=>by subst z;rw[r] at i;exact i
 let f:∀c xs,H c=eV (.tup xs)->c≠x:=λc xs r z=>by subst z;rw[r] at i;exact i
 by_cases g:b=x;subst g;rw[ad] at q;cases q;exact new
 rw[fh g] at q;by_cases a:b=e
 . let m:H b=eV (.own x):=by
    rcases n with z|z;exact fF (a.trans z) g;rw[a];exact z
   rw[q] at m;cases m;let(v,hv):=l;exact#[v,by rw[a];exact hv]
 refine(ok b u q).stay (λc v j r=>k c v ?_ r) (λc r=>by rw[fh (d c b r)];exact r) λc xs r=>by rw[fh (f c xs r)];exact r
 rcases j with rfl|j;exact a
 rintro rfl;rcases n with z|z;exact d c b j z;rw[j] at z;cases z;exact g rfl
structure Un(fs ex:eZ IS)(H H':Hp)(h h':JG):Prop where
 keep:∀b o,h.get? b=eV o->H b=eW->b∉fs->b∉ex->h'.get? b=eV o
 slot:∀b o,h.get? b=eV o->H b=eW->b∈fs->b∉ex->∃sl,h'.get? b=eV {o with slots:=sl}
 free:∀b o,h.get? b=eV o->H b=eW->b∉ex->H' b=eW
 there:∀b o,h.get? b=eV o->b∉ex->∃o',h'.get? b=eV o'
 tups:∀b xs,H b=eV (.tup xs)->H' b=eV (.tup xs)
 frzs:∀b o u,H b=eV (.frz o u)->H' b=eV (.frz o u)
 tbls:∀b ps,H b=eV (.tbl ps)->∃more,H' b=eV (.tbl (ps++more))
theorem Un.any(u:Un fs ex H e h h1)(q:h.get? b=eV ob)(n:H b=eW)(c:b∉ex):∃d,h1.get? b=eV {ob with slots:=d}:=by
 by_cases a:b∈fs;exact u.slot b ob q n a c;exact#[ob.slots,u.keep b ob q n a c]
theorem Un.kept(k:∀b u,h.get? b=eV u->h'.get? b=eV u):Un fs ex H H h h' :=
 #[λb ob q _ _ _=>k b ob q,λb ob q _ _ _=>#[ob.slots,k b ob q],λ_ _ _ n _=>n,λb ob q _=>#[ob,k b ob q],λ_ _ q=>q,λ_ _ _ q=>q,λ_ ps q=>#[[].toArray,by rw[q];simp]]
theorem Un.refl:Un fs ex H H h h:=Un.kept λ_ _ q=>q
theorem Un.laid(k:∀b u,h.get? b=eV u->h'.get? b=eV u)(hp:h.objs.size<=a)(hn:H a=eW):Un fs ex H (upd H a o) h h' where
 keep:=λb u q _ _ _=>k b u q
 slot:=λb u q _ _ _=>#[u.slots,k b u q]
 free:=λb u q n _=>by rw[fh (AB (AD (Az q) hp))];exact n
 there:=λb u q _=>#[u,k b u q]
 tups:=λb xs q=>by rw[fh (gc q hn)];exact q
 frzs:=λb u xs q=>by rw[fh (gc q hn)];exact q
 tbls:=λb ps q=>#[[].toArray,by rw[fh (gc q hn),q];simp]
theorem Un.write(c:Mut (H x))(i:e=x\/H e=eV (.own x))(k:∀b u,b≠e->h.get? b=eV u->h'.get? b=eV u)(d:∃u,h'.get? e=eV u):Un fs ex H (upd H x o) h h':=by
 let g:∀b,H b=eW->b≠x:=λb n z=>by subst z;rw[n] at c;exact c
 let f:∀b,H b=eW->b≠e:=λb n z=>by
  subst z;rcases i with r|r;exact g b n r;rw[n] at r;cases r
 let hm:∀b u,H b=eV u->¬ Mut (eV u)->b≠x:=λb u q nm z=>by subst z;rw[q] at c;exact nm c
 refine#[λb u q n _ _=>k b u (f b n) q,λb u q n _ _=>#[u.slots,k b u (f b n) q],λb u q n _=>by rw[fh (g b n)];exact n,λb u q _=>?_,
  λb xs q=>by rw[fh (hm b _ q λz=>z)];exact q,λb u xs q=>by rw[fh (hm b _ q λz=>z)];exact q,λb ps q=>#[[].toArray,by rw[fh (hm b _ q λz=>z),q];simp]]
 by_cases a:b=e;subst a;exact d;exact#[u,k b u a q]
def trk(h:JG)(H:Hp):eZ IS:=(Bb h.objs.size).filter λa=>(H a).isSome
def hidT(h:JG)(H:Hp):JG:=Cs h (trk h H)
theorem a8n(h:JG)(H:Hp):(hidT h H).objs.size=h.objs.size:=PySem.W.hideAll_size _ _
theorem aag(e:h.get? b=eV o)(n:H b=eW):(hidT h H).get? b=eV o :=
 D8 _ e λhm=>by
  let q:(H b).isSome=eX:=(Bc.mp hm).2;rw[n] at q;simp at q
theorem ae9(e:(hidT h H).get? b=eV o):h.get? b=eV o/\H b=eW:=by
 let a:h.get? b=eV o:=Hb (trk h H) e;exists a;cases q:H b with
 |none=>rfl
 |some x =>
  let hm:b∈trk h H:=Bc.mpr #[Br.mpr (Az a),by simp[q]];let z:(hidT h H).get? b=eW:=Gc (trk h H) hm;rw[z] at e;cases e
def acw(g h:JG)(L:IS):eZ (IS×Obj):=(Bb h.objs.size).filterMap λa=>if a=L\/(g.get? a).isSome=eX then eW else(h.get? a).map λo=>(a,o)
def rest(g h:JG)(L d:IS):eZ (IS×Obj):=(acw g h L).filter λp=>decide (p.1≠d)
structure Mod(K:Aa)(mg:fS->fA IT)(base:JG):Prop where
 kin:K.In base
 glob:base.Ns IY mg
 blt:∃mb,base.Ns builtinsNs mb/\∀x:fS,x≠"__name__" -> mb x=bootBuiltins x
 nolimit:base.NoLimit
set_option genInjectivity false in
structure Cx where
 prog:JH
 w:JL
 K:Aa
 mg:fS->fA IT
 base:JG
 A:JW
 N:fJ
 s₀:IX
 H₀:Hp
 env:Env
 outer:eZ Env
 stack:eZ Env
 ex:eZ IS
 fn:fS->gQ
 calm:gQ
 pn:eZ (IS×Obj)
 xe:IT->IX->Prop
def frs(l:eZ Env):eZ IS:=l.filterMap (·.frame)
abbrev Cx.fs(X:Cx):eZ IS:=frs X.outer
def Vis(sc:Scope)(x:fS):Prop:=sc.names.lookup x=eV .local\/sc.names.lookup x=eV .cell\/sc.names.lookup x=eV .free
def Loc(sc:Scope)(x:fS):Prop:=sc.names.lookup x=eV .local\/sc.names.lookup x=eV .cell
def Look(env:Env)(h:JG)(m:fS->fA IT)(x:fS)(u:IT):Prop :=
 (env.kindOf x=eV .local/\m x=eV u)\/((env.kindOf x=eV .cell\/env.kindOf x=eV .free)/\∃c,env.cells.lookup x=eV c/\h.IsCell c (eV u))
structure Cx.Ok(X:Cx):Prop where
 mod:Mod X.K X.mg X.base
 kind:X.env.scope.kind=.function
 glob:X.env.globals=IY
 blt:X.env.builtins=builtinsNs
 above:X.s₀.heap.objs.size<=X.env.locals
 inj:∀x y c,X.env.cells.lookup x=eV c->X.env.cells.lookup y=eV c->x=y
 has:∀x,(X.env.kindOf x=eV .cell\/X.env.kindOf x=eV .free)->∃c,X.env.cells.lookup x=eV c
 cab:∀x c,X.fn x=eX->X.env.cells.lookup x=eV c->X.s₀.heap.objs.size<=c
 hd:X.calm=eX->X.A.handled=eW
 frames:X.A.frames=eV X.stack
 stk:X.stack=X.outer\/(X.stack=X.env::X.outer/\X.env.frame=eV X.env.locals)
 exf:∀b∈X.ex,b≠X.env.locals/\∀x c,X.env.cells.lookup x=eV c->c≠b
 bs:∀b o,X.base.get? b=eV o->X.s₀.heap.get? b=eV o/\X.H₀ b=eW
 bsz:X.base.objs.size<=X.s₀.heap.objs.size
 noex:∀b o,X.base.get? b=eV o->b∉X.ex
 exfs:∀b∈X.ex,b∉X.fs
 funs:X.s₀.heap.FunFrames X.base X.outer
 frf:∀b∈X.fs,X.H₀ b=eW
structure Inv(X:Cx)(pins:eZ (IS×Obj))(σ:eZ (fA V))(H:Hp)(s:IX):Prop where
 ok:X.Ok
 os:s.os=X.s₀.os
 bare:AllBare s.gens
 base:Un X.fs X.ex X.H₀ H X.s₀.heap s.heap
 loc:∃m,s.heap.Ns X.env.locals m/\∀(i:fC) (x:fS) (v:V),X.N[i]?=eV x->σ[i]?=eV (eV v)->Vis X.env.scope x->∃u,RelV v u/\Look X.env s.heap m x u
 cell:∀x c,X.env.cells.lookup x=eV c->∃v,s.heap.IsCell c v
 free:H X.env.locals=eW
 freeC:∀x c,X.env.cells.lookup x=eV c->H c=eW
 pin:∀p∈X.pn++pins,s.heap.get? p.1=eV p.2/\H p.1=eW/\p.1≠X.env.locals/\p.1∉X.fs/\∀v,p.2.data≠.cell v
 hok:HOk X.prog X.w H s.heap
 len:σ.length=X.N.length
theorem Cx.Ok.nofr{X:Cx}(ok:X.Ok)(e:X.base.get? b=eV o):b∉X.fs:=λa=>by
 let:=(ok.funs.mem a).1;rw[e] at this;cases this
theorem Inv.bs(I:Inv X a σ H s):∀b o,X.base.get? b=eV o->s.heap.get? b=eV o/\H b=eW:=λb o e =>
 #[I.base.keep b o (I.ok.bs b o e).1 (I.ok.bs b o e).2 (I.ok.nofr e) (I.ok.noex b o e),I.base.free b o (I.ok.bs b o e).1 (I.ok.bs b o e).2 (I.ok.noex b o e)]
theorem Inv.bk(I:Inv X a σ H s):∀b o,X.base.get? b=eV o->s.heap.get? b=eV o:=λb o e=>(I.bs b o e).1
theorem Inv.mod(I:Inv X a σ H s):Mod X.K X.mg X.base:=I.ok.mod
theorem Inv.kIn(I:Inv X a σ H s):X.K.In s.heap:=I.ok.mod.kin.keeps I.bk
theorem Inv.lt(I:Inv X a σ H s):X.env.locals<s.heap.objs.size:=let ⟨_,hn,_⟩:=I.loc;hn.lt
theorem Inv.sz(I:Inv X a σ H s):X.s₀.heap.objs.size<=s.heap.objs.size:=AA I.ok.above (B7 I.lt)
theorem Inv.nofs(I:Inv X b σ H s)(h:s.heap.objs.size<=a):a∉X.fs:=λc=>by
 let(_,o,d,_):=I.ok.funs.mem c;exact fF (AD (Az d) (AA I.sz h)) (AZ _)
theorem Inv.cne(I:Inv X d σ H s):∀x c,X.env.cells.lookup x=eV c->c≠X.env.locals:=λx c e z=>by
 let(v,o,f,hd):=I.cell x c e;let(m,(g,es,ep,a,b,_),_):=I.loc;rw[z,a] at f;cases f;rw[b] at hd;cases hd
theorem Inv.funs(I:Inv X f σ H s):s.heap.FunFrames X.base X.outer:=by
 let all:∀(l:eZ Env),(∀b∈frs l,b∈X.fs)->X.s₀.heap.FunFrames X.base l->s.heap.FunFrames X.base l:=by
  intro l;induction l with
  |nil=>intro _ _;trivial
  |cons env r ih =>
   intro g hl;let(h,(L,o,d,hn,i,hd),j):=hl;let a:L∈X.fs:=g L (by unfold frs;rw[BN,d];exact Af);let(k,e):=I.base.slot L o i (I.ok.frf L a) a λz=>I.ok.exfs L z a;exact#[h,#[L,_,d,hn,e,hd],ih (λb c=>g b (by unfold frs;rw[BN,d];exact Ag _ c)) j]
 exact all X.outer (λ_ c=>c) I.ok.funs
theorem Inv.stack(I:Inv X a σ H s):s.heap.FunFrames X.base X.stack:=by
 rcases I.ok.stk with e|⟨e,b⟩;rw[e];exact I.funs;rw[e];let(m,hn,_):=I.loc;refine .cons (by rw[I.ok.kind];decide) b hn ?_ I.funs;exact Ge (AA I.ok.bsz I.ok.above)
theorem Inv.stkSub(I:Inv X c σ H s):∀b∈frs X.stack,b∈X.env.locals::X.fs:=λb a=>by
 rcases I.ok.stk with e|⟨e,d⟩;rw[e] at a;exact Ag _ a;rw[e] at a;unfold frs at a;rw[BN,d] at a;exact a
theorem Inv.stkFree(I:Inv X c σ H s):∀b∈frs X.stack,H b=eW:=λb a=>by
 rcases Ak.mp (I.stkSub b a) with e|a;rw[e];exact I.free;let(_,o,d,_):=I.ok.funs.mem a;exact I.base.free b o d (I.ok.frf b a) λz=>I.ok.exfs b z a
theorem Inv.step{ch:eZ IS}(I:Inv X y σ H s)(f:∀b∈ch,(b∈X.ex\/X.s₀.heap.objs.size<=b)/\b≠X.env.locals/\(∀x c,X.env.cells.lookup x=eV c->c≠b)/\∀p∈X.pn++y,p.1≠b)(keep:∀b o,b≠X.env.locals->b∉X.fs->b∉ch->s.heap.get? b=eV o->H b=eW->h'.get? b=eV o)(slot:∀b o,b≠X.env.locals->b∈X.fs->b∉ch->s.heap.get? b=eV o->H b=eW->∃G,h'.get? b=eV {o with slots:=G})(free:∀b o,b∉ch->s.heap.get? b=eV o->H b=eW->H' b=eW)(there:∀b o,b∉ch->s.heap.get? b=eV o->∃C,h'.get? b=eV C)(tups:∀b xs,H b=eV (.tup xs)->H' b=eV (.tup xs))(frzs:∀b o u,H b=eV (.frz o u)->H' b=eV (.frz o u))(tbls:∀b ps,H b=eV (.tbl ps)->∃more,H' b=eV (.tbl (ps++more)))(ns:∀m,s.heap.Ns X.env.locals m->h'.Ns X.env.locals m)(hok:HOk X.prog X.w H' h')(O:AllBare g'):
 Inv X y σ H' {s with heap:=h',gens:=g',drawn:=d',toks:=t'}:=by
 let D:∀b o,X.s₀.heap.get? b=eV o->b≠X.env.locals:=λb o e=>AB (AD (Az e) I.ok.above);let j:∀b o,X.s₀.heap.get? b=eV o->b∉X.ex->b∉ch:=λb o e a A=>by
  rcases(f b A).1 with z|z;exact a z;exact fF (AD (Az e) z) (AZ _)
 let h:∀x c,X.env.cells.lookup x=eV c->∀v,s.heap.IsCell c v->h'.IsCell c v:=λx c e v #[o,B,hd]=>by
  let g:c∉ch:=λz=>(f c z).2.2.1 x c e rfl;by_cases J:c∈X.fs;let(G,q):=slot c o (I.cne x c e) J g B (I.freeC x c e);exact#[_,q,hd];exact#[o,keep c o (I.cne x c e) J g B (I.freeC x c e),hd]
 refine#[I.ok,I.os,O,#[λb o e n A a=>?_,λb o e n A a=>?_,λb o e n a=>?_,λb o e a=>?_,λb xs e=>tups b xs (I.base.tups b xs e),λb o xs e=>frzs b o xs (I.base.frzs b o xs e),λb ps e=>?_],?_,λx c e=>?_,?_,λx c e=>?_,λp hp=>?_,hok,I.len];exact keep b o (D b o e) A (j b o e a) (I.base.keep b o e n A a) (I.base.free b o e n a);let(G,t):=I.base.slot b o e n A a;let(F,E):=slot b _ (D b o e) A (j b o e a) t (I.base.free b o e n a);exact#[F,E];let(C,t):=I.base.there b o e a;exact free b C (j b o e a) t (I.base.free b o e n a);let(C,t):=I.base.there b o e a;exact there b C (j b o e a) t;let(M,t):=I.base.tbls b ps e;let(N,E):=tbls b _ t;exact#[M++N,by rw[E,Hd]];let(m,hn,hl):=I.loc;refine#[m,ns m hn,λi x v t E L=>?_];let(u,r,l):=hl i x v t E L;exists u,r;rcases l with l|⟨k,c,e,z⟩;exact .inl l;exact .inr #[k,c,e,h x c e _ z];let(v,z):=I.cell x c e;exact#[v,h x c e v z];let(m,(o,_,_,B,_),_):=I.loc;exact free _ o (λz=>(f _ z).2.1 rfl) B I.free;let(v,o,B,hd):=I.cell x c e;exact free c o (λz=>(f c z).2.2.1 x c e rfl) B (I.freeC x c e)
 let(e,n,ne,nf,d):=I.pin p hp;let g:p.1∉ch:=λz=>(f p.1 z).2.2.2 p hp rfl;exact#[keep p.1 p.2 ne nf g e n,free p.1 p.2 g e n,ne,nf,d]
theorem Inv.un(I:Inv X a σ H s)(u:Un X.fs [] H H' s.heap h')(hok:HOk X.prog X.w H' h'):Inv X a σ H' {s with heap:=h',toks:=t'}:=by
 let(m,(o,es,ep,h,r),_):=id I.loc;let(j,i):=u.any h I.free (by simp);exact I.step (g':=s.gens) (d':=s.drawn) (ch:=[]) (λ_ z=>nomatch z) (λb o _ d _ e n=>u.keep b o e n d (by simp)) (λb o _ d _ e n=>u.slot b o e n d (by simp)) (λb o _ e n=>u.free b o e n (by simp)) (λb o _ e=>u.there b o e (by simp)) u.tups u.frzs u.tbls (λk hm=>by
  let(l,f,g,c,r'):=hm;rw[h] at c;cases c;exact#[_,f,g,i,r']) hok I.bare
theorem Inv.call(I:Inv X a σ H s)(u:Un (frs X.stack) ch H H' s.heap h')(hok:HOk X.prog X.w H' h')(q:AllBare g')(g:∀b∈ch,(b∈X.ex\/X.s₀.heap.objs.size<=b)/\b≠X.env.locals/\(∀x c,X.env.cells.lookup x=eV c->c≠b)/\∀p∈X.pn++a,p.1≠b):
 Inv X a σ H' {s with heap:=h',gens:=g',drawn:=d',toks:=t'}:=by
 let(m,(o,es,ep,k,r),_):=id I.loc;let(y,i):=u.any k I.free λz=>(g _ z).2.1 rfl;exact I.step (ch:=ch) g (λb o i l d e n=>u.keep b o e n (λz=>(Ak.mp (I.stkSub b z)).elim i l) d) (λb o _ _ d e n=>u.any e n d) (λb o d e n=>u.free b o e n d) (λb o d e=>u.there b o e d) u.tups u.frzs u.tbls (λt hm=>by
  let(v,j,h,f,r'):=hm;rw[k] at f;cases f;exact#[_,j,h,i,r']) hok q
theorem Inv.turned(I:Inv X a σ H s)(k:∀b o,b≠it->s.heap.get? b=eV o->h'.get? b=eV o)(hn:H it=eW)(g:it≠X.env.locals)(h1:it∈X.ex\/X.s₀.heap.objs.size<=it)(h2:∀x c,X.env.cells.lookup x=eV c->c≠it)(h3:∀p∈X.pn++a,p.1≠it):Inv X a σ H {s with heap:=h',toks:=t'}:=by
 let f:∀b u,H b=eV u->b≠it:=λb u e z=>by rw[z,hn] at e;cases e
 refine I.step (g':=s.gens) (d':=s.drawn) (ch:=[it]) (λb h=>?_) (λb o _ _ d e _=>k b o (λz=>d (by simp[z])) e) (λb o _ _ d e _=>#[o.slots,k b o (λz=>d (by simp[z])) e]) (λ_ _ _ _ n=>n)
  (λb o d e=>#[o,k b o (λz=>d (by simp[z])) e]) (λ_ _ e=>e) (λ_ _ _ e=>e) (λb ps e=>#[[].toArray,by rw[e];simp]) (λm hm=>?_) (λb u e=>?_) I.bare
 . let e:b=it:=by simpa using h
   subst e;exact#[h1,g,h2,h3]
 . let(o,es,ep,i,r):=hm;exact#[o,es,ep,k _ o (AE g) i,r]
 refine(I.hok b u e).stay (λc v d q=>k c v ?_ q) (λ_ q=>q) λ_ _ q=>q;rcases d with z|z;rw[z];exact f b u e;exact f c _ z
theorem Inv.tok(I:Inv X a σ H s)(t:fC):Inv X a σ H {s with toks:=t}:=I.un (h':=s.heap) (t':=t) Un.refl I.hok
theorem Inv.kept(I:Inv X a σ H s)(k:∀b u,s.heap.get? b=eV u->h'.get? b=eV u):Inv X a σ H {s with heap:=h',toks:=t'}:=I.un (Un.kept k) (I.hok.kept k)
theorem Inv.laid(I:Inv X c σ H s)(k:∀b u,s.heap.get? b=eV u->h'.get? b=eV u)(hp:s.heap.objs.size<=a)(new:ObjOk X.prog X.w (upd H a o) h' a o):
 Inv X c σ (upd H a o) {s with heap:=h',toks:=t'}:=I.un (Un.laid k hp (I.hok.fresh hp)) (I.hok.laid k hp new)
theorem Inv.write(I:Inv X a σ H s)(d:Mut (H x))(f:e=x\/H e=eV (.own x))(k:∀b u,b≠e->s.heap.get? b=eV u->h'.get? b=eV u)(c:∃u,h'.get? e=eV u)(new:ObjOk X.prog X.w (upd H x o) h' x o):Inv X a σ (upd H x o) {s with heap:=h',toks:=t'}:=I.un (Un.write d f k c) (I.hok.write d f k c new)
theorem Inv.pins_of(I:Inv X b σ H s)(h:∀p∈a,s.heap.get? p.1=eV p.2/\H p.1=eW/\p.1≠X.env.locals/\p.1∉X.fs/\∀v,p.2.data≠.cell v):Inv X a σ H s :=
 #[I.ok,I.os,I.bare,I.base,I.loc,I.cell,I.free,I.freeC,λp hp=>(Ab.mp hp).elim (λz=>I.pin p (Gg _ z)) (h p),I.hok,I.len]
theorem a0i{N:fJ}(e:N.Nodup){i:fC}(a:N[i]?=eV x)(b:N[j]?=eV x):i=j:=by
 let(h1,d):=Ao.mp a;let(h2,c):=Ao.mp b;exact(HE e).mp (d.trans c.symm)
theorem yd(I:Inv X U σ H s)(hN:X.N.Nodup)(hi:X.N[i]?=eV x)(B:Loc X.env.scope x)(r:RelV v u)(h:∀s',Inv X U (σ.set i (eV v)) H s'->(∃a,BE a s.heap s'.heap/\(a=X.env.locals\/X.env.cells.lookup x=eV a))->Q () s')(hf:autoParam (X.fn x=eX\/X.env.scope.names.lookup x=eV .local) a0_):IU M A (storeName X.env x u) Q E s:=by
 let(m,hn,hl):=id I.loc;let R:(X.env.scope.kind==.class || (X.env.scope.kind==.module && X.env.locals != X.env.globals))=eY:=by rw[I.ok.kind];rfl
 let W:i<σ.length:=by rw[I.len];exact(Ao.mp hi).1
 let cne:=I.cne;let g:∀{a:IS} {h':JG},(∃o,s.heap.get? a=eV o/\H a=eW)->BE a s.heap h'->HOk X.prog X.w H h':=λ{a h'} ha f b ob e=>by
  let(_,_,C):=ha;refine(I.hok b ob e).stay (λc Z t q=>(f.2 c ?_).trans q) (λ_ q=>q) λ_ _ q=>q;rintro rfl;rcases t with rfl|t;rw[C] at e;cases e;rw[C] at t;cases t
 rcases B with F|F
 . refine wpAny_storeName_local F hn (λh' aa f=>?_) R;let(oL,_,_,ab,_):=id hn;refine h _ #[I.ok,I.os,I.bare,#[λb o e n L B=>?_,λb o e n L B=>?_,I.base.free,λb o e B=>?_,I.base.tups,I.base.frzs,I.base.tbls],#[_,aa,λj y v' l D e3=>?_],λy c e=>?_,I.free,I.freeC,λp hp=>?_,g #[oL,ab,I.free] f,by simpa using I.len] #[_,f,.inl rfl];exact(f.2 b (AB (AD (Az e) I.ok.above))).trans (I.base.keep b o e n L B);let(sl,l):=I.base.slot b o e n L B;exact#[sl,(f.2 b (AB (AD (Az e) I.ok.above))).trans l];let(o',l):=I.base.there b o e B;exact#[o',(f.2 b (AB (AD (Az e) I.ok.above))).trans l]
   . by_cases G:j=i;subst G;rw[hi] at l;cases l;rw[FG W] at D;cases D;exact#[u,r,.inl #[F,by simp]]
     . rw[Gh (AE G)] at D;let(u',r',q):=hl j y v' l D e3;exists u',r';rcases q with⟨k,e⟩|⟨k,c,e,z⟩
       . refine .inl #[k,?_];let:y≠x:=λe=>G (a0i hN l (e ▸ hi));simp[this,e]
       exact .inr #[k,c,e,z.sameBut f (cne y c e)]
   . let(Z,z):=I.cell y c e;exact#[Z,z.sameBut f (cne y c e)]
   let(e,n,ne,nf,d):=I.pin p hp;exact#[(f.2 p.1 ne).trans e,n,ne,nf,d]
 let J:X.fn x=eX:=by
  rcases hf with z|z;exact z;rw[z] at F;cases F
 let(c,t):=I.ok.has x (.inl F);let(Z,z):=I.cell x c t;refine wpAny_storeName_cell I.ok.kind F t z (λh' O f=>?_);let(oc,P,S):=id z;refine h {s with heap:=h'} #[I.ok,I.os,I.bare,#[λb o e n L B=>?_,λb o e n L B=>?_,I.base.free,λb o e B=>?_,I.base.tups,I.base.frzs,I.base.tbls],#[m,hn.sameBut f (AE (cne x c t)),λj y v' l D e3=>?_],λy Y e=>?_,I.free,I.freeC,λp hp=>?_,g #[oc,P,I.freeC x c t] f,by simpa using I.len] #[c,f,.inr t];exact(f.2 b (AB (AD (Az e) (I.ok.cab x c J t)))).trans (I.base.keep b o e n L B);let(sl,l):=I.base.slot b o e n L B;exact#[sl,(f.2 b (AB (AD (Az e) (I.ok.cab x c J t)))).trans l];let(o',l):=I.base.there b o e B;exact#[o',(f.2 b (AB (AD (Az e) (I.ok.cab x c J t)))).trans l];by_cases G:j=i;subst G;rw[hi] at l;cases l;rw[FG W] at D;cases D;exact#[u,r,.inr #[.inl F,c,t,O]];rw[Gh (AE G)] at D;let(u',r',q):=hl j y v' l D e3;exists u',r';rcases q with q|⟨k,Y,e,z'⟩;exact .inl q;refine .inr #[k,Y,e,z'.sameBut f ?_];rintro rfl;exact G (a0i hN l (I.ok.inj _ _ _ e t ▸ hi));by_cases T:Y=c;subst T;exact#[_,O];let(w2,z2):=I.cell y Y e;exact#[w2,z2.sameBut f T]
 let(e,n,ne,nf,d):=I.pin p hp;refine#[(f.2 p.1 ?_).trans e,n,ne,nf,d];intro q;rw[q,P] at e;let q':oc=p.2:=Am e;exact d Z (by rw[<- q'];exact S)
theorem vz(I:Inv X a σ H s)(c:X.N.Nodup)(hi:X.N[i]?=eV x)(d:Loc X.env.scope x)(r:RelV v u)(h:∀s',Inv X a (σ.set i (eV v)) H s'->Q () s')(e:autoParam (X.fn x=eX\/X.env.scope.names.lookup x=eV .local) a0_):IU M A (storeName X.env x u) Q E s :=
 yd I c hi d r (λs' b _=>h s' b) e
theorem Inv.call'(I:Inv X a σ H s)(g:s'.os=s.os)(u:Un (frs X.stack) ch H H' s.heap s'.heap)(hok:HOk X.prog X.w H' s'.heap)(f:AllBare s'.gens)(d:∀b∈ch,(b∈X.ex\/X.s₀.heap.objs.size<=b)/\b≠X.env.locals/\(∀x c,X.env.cells.lookup x=eV c->c≠b)/\∀p∈X.pn++a,p.1≠b):Inv X a σ H' s':=by
 let(h',g',d',t',h):=s';let e:h=s.os:=g;subst e;exact I.call (g':=g') (t':=t') (d':=d') u hok f d
abbrev XK:=IT->fA IS->Hp->Prop
abbrev St:=eZ (fA V)
abbrev VK:=V->Hp->Prop
abbrev TE:=St->Hp->VK->Prop
abbrev TT:=St->Hp->(gQ->Hp->Prop)->Prop
abbrev TA:=St->Hp->(eZ V->Hp->Prop)->Prop
structure Ends where
 nx:St->Hp->Prop
 rt:VK
 bk:St->Hp->Prop:=λ_ _=>False
 ct:St->Hp->Prop:=λ_ _=>False
abbrev TS:=Ends->St->Hp->Prop
inductive EPS(X:Cx)(pins:eZ (IS×Obj))(σ:St)(Q:VK)(u:IT)(s':IX):Prop
 |mk (v:V)(H':Hp)(h0:Inv X pins σ H' s')(h1:RelV v u)(h2:Q v H'):EPS X pins σ Q u s'
def EP(X:Cx)(pins:eZ (IS×Obj))(σ:St)(Q:VK)(u:IT)(s':IX):Prop:=EPS X pins σ Q u s'
def TP(X:Cx)(pins:eZ (IS×Obj))(σ:St)(Q:gQ->Hp->Prop)(b:gQ)(s':IX):Prop:=∃H',Inv X pins σ H' s'/\Q b H'
inductive APS(X:Cx)(pins:eZ (IS×Obj))(σ:St)(Q:eZ V->Hp->Prop)(us:eZ IT)(s':IX):Prop
 |mk (vs:eZ V)(H':Hp)(h0:Inv X pins σ H' s')(h1:Vals vs us)(h2:Q vs H'):APS X pins σ Q us s'
def AP(X:Cx)(pins:eZ (IS×Obj))(σ:St)(Q:eZ V->Hp->Prop)(us:eZ IT)(s':IX):Prop:=APS X pins σ Q us s'
def SP(X:Cx)(pins:eZ (IS×Obj))(D:Ends)(f:Flow)(s':IX):Prop :=
 match f with
 |.next=>∃σ' H',Inv X pins σ' H' s'/\D.nx σ' H'
 |.brk=>∃σ' H',Inv X pins σ' H' s'/\D.bk σ' H'
 |.cont=>∃σ' H',Inv X pins σ' H' s'/\D.ct σ' H'
 |.ret u=>∃v σ' H',Inv X pins σ' H' s'/\RelV v u/\D.rt v H'
def PE(X:Cx)(e:Expr)(t:TE):Prop :=
 ∀(pins:eZ (IS×Obj)) (s:IX) (σ:St) (H:Hp) (Q:VK),Inv X pins σ H s->t σ H Q->IU (IV X.prog X.w) X.A (eval e X.env) (EP X pins σ Q) X.xe s
def PT(X:Cx)(e:Expr)(t:TT):Prop :=
 ∀(pins:eZ (IS×Obj)) (s:IX) (σ:St) (H:Hp) (Q:gQ->Hp->Prop),Inv X pins σ H s->t σ H Q->IU (IV X.prog X.w) X.A (isTrue e X.env (eval e X.env)) (TP X pins σ Q) X.xe s
def PW(X:Cx)(e:Expr)(t:TT):Prop :=
 ∀(whole:Sem IT) (pins:eZ (IS×Obj)) (s:IX) (σ:St) (H:Hp) (Q:gQ->Hp->Prop),Inv X pins σ H s->t σ H Q->IU (IV X.prog X.w) X.A (isTrue e X.env whole) (TP X pins σ Q) X.xe s
theorem PW.pt(h:PW X e t):PT X e t:=h _
def PA(X:Cx)(es:eZ Expr)(t:TA):Prop :=
 ∀(pos:Pos) (pins:eZ (IS×Obj)) (s:IX) (σ:St) (H:Hp) (Q:eZ V->Hp->Prop),Inv X pins σ H s->t σ H Q->IU (IV X.prog X.w) X.A (spliced (JF pos (IW es X.env))) (AP X pins σ Q) X.xe s
def PS(X:Cx)(st:JA)(t:TS):Prop :=
 ∀(pins:eZ (IS×Obj)) (s:IX) (σ:St) (H:Hp) (D:Ends),Inv X pins σ H s->t D σ H->IU (IV X.prog X.w) X.A (exec st X.env) (SP X pins D) X.xe s
def PSs(X:Cx)(st:eZ JA)(t:TS):Prop :=
 ∀(pins:eZ (IS×Obj)) (s:IX) (σ:St) (H:Hp) (D:Ends),Inv X pins σ H s->t D σ H->IU (IV X.prog X.w) X.A (execs st X.env) (SP X pins D) X.xe s
theorem thn(h:IU M A t Q E s)(c:∀a s,Q a s->b a s):IU M A t b E s:=B2 h c λ_ _ x=>x
inductive tVarS(i:fC)(σ:St)(H:Hp)(Q:VK):Prop
 |mk (v:V)(h0:σ[i]?=eV (eV v))(h1:Q v H):tVarS i σ H Q
def tVar(i:fC):TE:=fun σ H Q=>tVarS i σ H Q
def tC(v:V):TE:=λ_ H Q=>Q v H
theorem aft(k:X.N[i]?=eV x)(hv:Vis X.env.scope x)(hd:autoParam ((x==("__debug__":fS))=eY) a1_)(g:autoParam ((x==("__classdict__":fS))=eY) a1_):PE X (.Name x pos) (tVar i):=by
 intro f s σ H Q I h;let(v,e,h):=h;let(m,hn,hl):=I.loc;let(u,r,l):=hl i x v k e hv;let b:EP X f σ Q u s:=#[v,H,I,r,h]
 rcases l with⟨d,hm⟩|⟨d,c,j,a⟩
 . exact HU (wpAny_loadName_local I.ok.kind d hn hm b) hd
 rcases d with d|d;exact HU (wpAny_loadName_cell I.ok.kind d j a b) hd;exact HU (wpAny_loadName_free I.ok.kind d j a b g) hd
theorem tp{i j pos}:PE X (.Constant (.int i) j pos) (tC (.int i)):=λ_ _ _ H _ I h=>wpAny_Constant_int #[.int i,H,I.tok _,#[_,fR],h]
theorem acd{b j pos}:PE X (.Constant (.bool b) j pos) (tC (.bl b)):=λ_ _ _ H _ I h=>Constant_bool #[.bl b,H,I,fR,h]
theorem aeg{j pos}:PE X (.Constant .none j pos) (tC .non):=λ_ _ _ H _ I h=>Constant_none #[.non,H,I,fR,h]
theorem a5t{x j pos}:PE X (.Constant (.str x) j pos) (tC (.str x)):=λ_ _ _ H _ I h=>Calls.Constant_str #[.str x,H,I.tok _,#[_,fR],h]
def Gl(X:Cx)(x:fS):Prop:=X.env.kindOf x=eV .globalImplicit
theorem ug(I:Inv X a σ H s)(b:Gl X x)(hm:X.mg x=eV u)(h:Q u s)(hd:autoParam ((x==("__debug__":fS))=eY) a1_):IU (IV X.prog X.w) X.A (eval (.Name x pos) X.env) Q E s :=
 EO I.ok.kind b (Calls.loadGlobal_global (by rw[I.ok.glob];exact I.mod.glob.keeps I.bk) hm h) hd
theorem rj(I:Inv X a σ H s)(b:Gl X x)(hm:X.mg x=eW)(hv:bootBuiltins x=eV u)(h:Q u s)(hn:autoParam (x≠"__name__") a1_)(hd:autoParam ((x==("__debug__":fS))=eY) a1_):IU (IV X.prog X.w) X.A (eval (.Name x pos) X.env) Q E s:=by
 let(c,h1,h2):=I.mod.blt;exact EO I.ok.kind b (Calls.loadGlobal_builtin (by rw[I.ok.glob];exact I.mod.glob.keeps I.bk) hm (by rw[I.ok.blt];exact h1.keeps I.bk) ((h2 x hn).trans hv) h) hd
theorem ads(a:Gl X x)(hm:X.mg x=eV u)(r:RelV v u)(hd:autoParam ((x==("__debug__":fS))=eY) a1_):PE X (.Name x pos) (tC v) :=
 λ_ _ _ H _ I h=>ug I a hm #[v,H,I,r,h] hd
def PC(X:Cx)(op:CmpOp)(a b:Expr)(t:TE):Prop :=
 ∀(pins:eZ (IS×Obj)) (s:IX) (σ:St) (H:Hp) (Q:VK),Inv X pins σ H s->t σ H Q->
   IU (IV X.prog X.w) X.A (eval a X.env) (λv s₁=>IU (IV X.prog X.w) X.A (eval b X.env) (λu s₂=>IU (IV X.prog X.w) X.A (JD op v u) (EP X pins σ Q) X.xe s₂) X.xe s₁) X.xe s
inductive tBS(x:V)(H1:Hp)(Q:gQ->Hp->Prop):Prop
 |mk (c:gQ)(h0:x=.bl c)(h1:Q c H1):tBS x H1 Q
def tB(t:TE):TT:=fun σ H Q=>t σ H λx H1=>tBS x H1 Q
theorem a7n(h:PC X op a b t)(h1:autoParam (JE op b=eY) a2_):PE X (.Compare a [op] [b] pos) t:=λc s σ H Q I d=>wpAny_Compare1 (h c s σ H Q I d) h1
theorem a72(h:PC X op a b t)(h1:autoParam (JE op b=eY) a2_):PT X (.Compare a [op] [b] pos) (tB t):=by
 intro e s σ H Q I j;refine FR (thn (h e s σ H _ I j) λv s1 h1=>thn h1 λu l h2=>thn h2 λc k #[x,i,f,r1,g]=>?_) h1;let(d,rfl,q):=g;cases r1;exact BL #[i,f,q]
theorem af5(h:PE X e t)(b:autoParam (∀whole,isTrue e X.env whole=(do let v<-whole;standAt e.pos;holding [v] (truthy v))) a3_):PT X e (tB t):=by
 intro a s σ H Q I i;refine isTrue_plain (thn (h a s σ H _ I i) λv s1 #[x,f,c,r1,g]=>?_) (b _);let(d,rfl,q):=g;cases r1;exact BL #[f,c,q]
def tAnd(t u:TT):TT:=fun σ H Q=>t σ H λc H1=>if c=eX then u σ H1 Q else Q eY H1
def tOr(t u:TT):TT:=fun σ H Q=>t σ H λc H1=>if c=eX then Q eX H1 else u σ H1 Q
def tNot(t:TT):TT:=fun σ H Q=>t σ H λc H1=>Q (!c) H1
theorem adr(d:PT X a f):PW X (.BoolOp .And [a] pos) f:=by
 intro g b s σ H Q I h;refine isTrue_and (thn (d b s σ H Q I h) λc s1 e=>?_);cases c with|true=>exact isTrue_and_nil e|false=>exact e
theorem af4(d:PT X a f):PW X (.BoolOp .Or [a] pos) f:=by
 intro g b s σ H Q I h;refine isTrue_or (thn (d b s σ H Q I h) λc s1 e=>?_);cases c with|false=>exact isTrue_or_nil e|true=>exact e
theorem afe{rest:eZ Expr}(l:PT X a k)(j:PW X (.BoolOp .And (b::rest) pos) e):PW X (.BoolOp .And (a::b::rest) pos) (tAnd k e):=by
 intro m d s σ H Q I h;refine isTrue_and (thn (l d s σ H _ I h) λc s1 n=>?_);let(g,f,i):=n;cases c with|true=>exact j m d s1 σ g Q f i|false=>exact#[g,f,i]
theorem agn{rest:eZ Expr}(l:PT X a k)(j:PW X (.BoolOp .Or (b::rest) pos) e):PW X (.BoolOp .Or (a::b::rest) pos) (tOr k e):=by
 intro m d s σ H Q I h;refine isTrue_or (thn (l d s σ H _ I h) λc s1 n=>?_);let(g,f,i):=n;cases c with|true=>exact#[g,f,i]|false=>exact j m d s1 σ g Q f i
theorem aet(d:PT X a f):PT X (.UnaryOp .Not a pos) (tNot f):=by
 intro b s σ H Q I h;exact isTrue_not (d b s σ H (λc e=>Q (!c) e) I h)
inductive tAndVS(tb:TE)(σ:St)(x:V)(H1:Hp)(Q:VK):Prop
 |mk (c:gQ)(h0:x=.bl c)(h1:if c=eX then tb σ H1 Q else Q (.bl eY) H1):tAndVS tb σ x H1 Q
def aca(ta tb:TE):TE:=fun σ H Q=>ta σ H λx H1=>tAndVS tb σ x H1 Q
inductive tOrVS(tb:TE)(σ:St)(x:V)(H1:Hp)(Q:VK):Prop
 |mk (c:gQ)(h0:x=.bl c)(h1:if c=eX then Q (.bl eX) H1 else tb σ H1 Q):tOrVS tb σ x H1 Q
def tOrV(ta tb:TE):TE:=fun σ H Q=>ta σ H λx H1=>tOrVS tb σ x H1 Q
inductive tNotVS(x:V)(H1:Hp)(Q:VK):Prop
 |mk (c:gQ)(h0:x=.bl c)(h1:Q (.bl (!c)) H1):tNotVS x H1 Q
def abj(ta:TE):TE:=fun σ H Q=>ta σ H λx H1=>tNotVS x H1 Q
theorem afh{op}(h:PE X a t):PE X (.BoolOp op [a] pos) t:=λb s σ H Q I c=>BoolOp_one (h b s σ H Q I c)
theorem af8{rest:eZ Expr}(l:PE X a k)(i:PE X (.BoolOp .And (b::rest) pos) j):PE X (.BoolOp .And (a::b::rest) pos) (aca k j):=by
 intro d s σ H Q I h;refine BoolOp_and (thn (l d s σ H _ I h) λv s1 m=>?_);let(x,g,f,r1,e):=m;let(c,rfl,e):=e;cases r1;refine BL ?_;cases c with|true=>exact i d s1 σ g Q f e|false=>exact#[.bl eY,g,f,fR,e]
theorem agb{rest:eZ Expr}(l:PE X a k)(i:PE X (.BoolOp .Or (b::rest) pos) j):PE X (.BoolOp .Or (a::b::rest) pos) (tOrV k j):=by
 intro d s σ H Q I h;refine BoolOp_or (thn (l d s σ H _ I h) λv s1 m=>?_);let(x,g,f,r1,e):=m;let(c,rfl,e):=e;cases r1;refine BL ?_;cases c with|false=>exact i d s1 σ g Q f e|true=>exact#[.bl eX,g,f,fR,e]
theorem afk(g:PE X a e):PE X (.UnaryOp .Not a pos) (abj e):=by
 intro b s σ H Q I h;refine UnaryOp_ (thn (g b s σ H _ I h) λv s1 j=>?_);let(x,i,f,r1,d):=j;let(c,rfl,d):=d;cases r1;exact not_of (BL #[.bl (!c),i,f,fR,d])
def tIf(t:TT)(ta tb:TE):TE:=fun σ H Q=>t σ H λc H1=>if c=eX then ta σ H1 Q else tb σ H1 Q
theorem a9k(n:PT X c l)(o:PE X a m)(j:PE X b k):PE X (.IfExp c a b pos) (tIf l m k):=by
 intro e s σ H Q I h;refine wpAny_IfExp (thn (n e s σ H _ I h) λd s1 p=>?_);let(g,f,i):=p;cases d with|true=>exact o e s1 σ g Q f i|false=>exact j e s1 σ g Q f i
def SqL(K:Aa)(H:Hp)(a:IS)(xs:eZ V):Prop :=
 Rd H a (.lst xs)\/
  ∃(o:Obj) (its:fY IT) (n:fC),K.lookup a=eV o/\o.cls=.type "list" /\ o.dict=eW/\o.data=.seq its n/\its.size<=IR/\Vals xs its.toList
def SqT(K:Aa)(H:Hp)(a:IS)(xs:eZ V):Prop :=
 Rd H a (.tup xs)\/
  ∃(o:Obj) (its:fY IT) (n:fC),K.lookup a=eV o/\o.cls=.type "tuple" /\ o.data=.seq its n/\its.size<=IR/\Vals xs its.toList
def absV:IT->fA V
 |.none=>eV .non
 |.bool b=>eV (.bl b)
 |.int i _=>eV (.int i)
 |.str x _=>eV (.str x)
 |.bytes b _=>eV (.byt b)
 |.float b _=>eV (.flt b)
 |.ref a=>eV (.ref a)
 |.type n=>eV (.ty n)
 |_=>eW
theorem RelV.abs(r:RelV x u):absV u=eV x:=by
 cases x with|non=>cases r;rfl|bl _=>cases r;rfl|int _=>let(t,rfl):=r;rfl|str _=>let(t,rfl):=r;rfl|byt _=>let(t,rfl):=r;rfl|flt _=>let(t,rfl):=r;rfl|ref _=>cases r;rfl|ty _=>cases r;rfl
theorem RelV.inj(r:RelV x u)(q:RelV y u):x=y:=Am (r.abs.symm.trans q.abs)
theorem Vals.inj:∀{xs ys:eZ V}{us:eZ IT},Vals xs us->Vals ys us->xs=ys
 |_,_,_,.nil,.nil=>rfl
 |_,_,_,.cons r t,.cons r' t'=>by rw[r.inj r',Vals.inj t t']
theorem SqL.of{K:Aa}(h:H a=eV (.lst xs)):SqL K H a xs:=.inl (.inl h)
theorem SqT.of{K:Aa}(h:H a=eV (.tup xs)):SqT K H a xs:=.inl (.inl h)
theorem Inv.list(I:Inv X b σ H s)(h:SqL X.K H a xs):∃its:eZ IT,Vals xs its/\PlainL s.heap a its.toArray/\xs.length<=IR:=by
 rcases h with h|⟨o,its,n,d,f,hd,c,hz,r⟩;let(z,its,n,r,e):=h.ok I.hok;exact#[its,r,#[_,n,e,fR,fR,fR],z]
 exists its.toList,r,#[o,n,I.kIn a o d,f,hd,by simpa using c];let e:=r.length;simp only[AC] at e
 lia
theorem Inv.tuple(I:Inv X b σ H s)(h:SqT X.K H a xs):∃its:eZ IT,Vals xs its/\IsTup s.heap a its.toArray/\xs.length<=IR:=by
 rcases h with h|⟨o,its,n,d,f,c,hz,r⟩;let(z,its,r,p):=h.ok I.hok;exact#[its,r,p,z]
 exists its.toList,r,#[o,I.kIn a o d,f,n,by simpa using c];let e:=r.length;simp only[AC] at e
 lia
theorem Inv.list_inj(I:Inv X b σ H s)(h:SqL X.K H a xs)(h':SqL X.K H a ys):xs=ys:=by
 let(its,r,(o,n,e,_,_,d),_):=I.list h;let(its',r',(g,f,c,_,_,d'),_):=I.list h';rw[e] at c;cases c;rw[d] at d';injection d' with d1 _;let:its=its':=by simpa using fX IC d1
 subst this;exact r.inj r'
theorem Inv.tuple_inj(I:Inv X b σ H s)(h:SqT X.K H a xs)(h':SqT X.K H a ys):xs=ys:=by
 let(its,r,(o,e,_,n,d),_):=I.tuple h;let(its',r',(g,c,_,f,d'),_):=I.tuple h';rw[e] at c;cases c;rw[d] at d';injection d' with d1 _;let:its=its':=by simpa using fX IC d1
 subst this;exact r.inj r'
abbrev Cx.wish(X:Cx)(E:IT->IX->Prop):Cx:={X with xe:=E}
abbrev Cx.nox(X:Cx):Cx:=X.wish λ_ _=>False
theorem Cx.Ok.wish{X:Cx}(ok:X.Ok)(E:IT->IX->Prop):(X.wish E).Ok :=
 #[ok.mod,ok.kind,ok.glob,ok.blt,ok.above,ok.inj,ok.has,ok.cab,ok.hd,ok.frames,ok.stk,ok.exf,ok.bs,ok.bsz,ok.noex,ok.exfs,ok.funs,ok.frf]
theorem Cx.Ok.unwish{X:Cx}(ok:(X.wish E).Ok):X.Ok :=
 #[ok.mod,ok.kind,ok.glob,ok.blt,ok.above,ok.inj,ok.has,ok.cab,ok.hd,ok.frames,ok.stk,ok.exf,ok.bs,ok.bsz,ok.noex,ok.exfs,ok.funs,ok.frf]
theorem Inv.wish(I:Inv X a σ H s)(E:IT->IX->Prop):Inv (X.wish E) a σ H s:=#[I.ok.wish E,I.os,I.bare,I.base,I.loc,I.cell,I.free,I.freeC,I.pin,I.hok,I.len]
theorem Inv.unwish(I:Inv (X.wish E) a σ H s):Inv X a σ H s:=#[I.ok.unwish,I.os,I.bare,I.base,I.loc,I.cell,I.free,I.freeC,I.pin,I.hok,I.len]
theorem SP.unwish(h:SP (X.wish E) b D f s'):SP X b D f s':=by
 cases f with|next=>let(a,H',I,q):=h;exact#[a,H',I.unwish,q]|brk=>let(a,H',I,q):=h;exact#[a,H',I.unwish,q]|cont=>let(a,H',I,q):=h;exact#[a,H',I.unwish,q]|ret u=>let(v,a,H',I,r,q):=h;exact#[v,a,H',I.unwish,r,q]
theorem PSs.nox{st:eZ JA}(h:PSs X.nox st t):PSs X st t:=λa s σ H D I b =>
 B2 (h a s σ H D (I.wish _) b) (λ_ _ q=>q.unwish) λ_ _ z=>BS z
def abw:TS:=λD σ H=>D.nx σ H
def tSeq(t u:TS):TS:=λD σ H=>t {D with nx:=u D} σ H
theorem ad6:PSs X [] abw:=λ_ _ σ H _ I h=>El #[σ,H,I,h]
theorem vm{st:JA}{rest:eZ JA}(h1:PS X st t)(h2:PSs X rest u):PSs X (st::rest) (tSeq t u):=by
 intro a s σ H D I h;refine HF (thn (h1 a s σ H {D with nx:=u D} I h) λf s1 q=>?_);cases f with
 |next =>
  let(b,H',c,q):=q;exact h2 a s1 b H' D c q
 |ret v=>exact q
 |brk=>exact q
 |cont=>exact q
theorem xc{st:JA}(h1:PS X st t):PSs X [st] t:=by
 intro a s σ H D I h;refine HF (thn (h1 a s σ H D I h) λf s1 q=>?_);cases f with|next=>exact El q|ret v=>exact q|brk=>exact q|cont=>exact q
def a6g:TS:=λD σ H=>D.bk σ H
def ac7:TS:=λD σ H=>D.ct σ H
theorem a98:PS X (.Break pos) a6g:=λ_ _ σ H _ I h=>wpAny_Break #[σ,H,I,h]
theorem a20:PS X (.Continue pos) ac7:=λ_ _ σ H _ I h=>wpAny_Continue #[σ,H,I,h]
theorem Inv.quiet(I:Inv X a σ H s):interactive X.env=eY:=by simp[interactive,I.ok.kind]
def acb(te:TE):TS:=λD σ H=>te σ H λ_ H1=>D.nx σ H1
theorem a2r(c:PE X e i)(b:autoParam (JN e eW pos.line X.env=pure eY) a4_):PS X (.Expr e pos) (acb i):=by
 intro a s σ H D I h;exact wpAny_Expr_any (thn (c a s σ H _ I h) λv s1 #[x,f,d,r1,g]=>#[σ,f,d,g]) I.quiet b
def tRet(te:TE):TS:=λD σ H=>te σ H D.rt
theorem a7x(b:PE X e g):PS X (.Return (eV e) pos) (tRet g):=by
 intro a s σ H D I h;exact wpAny_Return_some (thn (b a s σ H _ I h) λv s1 #[x,d,c,r1,f]=>#[x,σ,d,c,r1,f])
def tIfS(c:TT)(t u:TS):TS:=λD σ H=>c σ H λb H1=>if b=eX then t D σ H1 else u D σ H1
theorem ag9(k:PT X c m)(l:PSs X a t)(j:PSs X b u):PS X (.If c a b pos) (tIfS m t u):=by
 intro e s σ H D I h;refine wpAny_If (thn (k e s σ H _ I h) λd s1 n=>?_);let(g,f,i):=n;cases d with|true=>exact l e s1 σ g D f i|false=>exact j e s1 σ g D f i
abbrev TG:=V->St->Hp->(St->Hp->Prop)->Prop
abbrev TGs:=eZ V->St->Hp->(St->Hp->Prop)->Prop
def PG(X:Cx)(target:Expr)(t:TG):Prop :=
 ∀(pins:eZ (IS×Obj)) (s:IX) (σ:St) (H:Hp) (v:V) (u:IT) (Q:St->Hp->Prop),Inv X pins σ H s->RelV v u->t v σ H Q->
   IU (IV X.prog X.w) X.A (assign target X.env u) (λ_ s'=>∃σ' H',Inv X pins σ' H' s'/\Q σ' H') X.xe s
def PGs(X:Cx)(ts:eZ Expr)(t:TGs):Prop :=
 ∀(pins:eZ (IS×Obj)) (s:IX) (σ:St) (H:Hp) (vs:eZ V) (us:eZ IT) (Q:St->Hp->Prop),Inv X pins σ H s->Vals vs us->t vs σ H Q->
   IU (IV X.prog X.w) X.A (assignInOrder ((JB ts X.env).map (·.2)) us) (λ_ s'=>∃σ' H',Inv X pins σ' H' s'/\Q σ' H') X.xe s
abbrev TSet:=V->V->V->Hp->(Hp->Prop)->Prop
def PSet(X:Cx)(t:TSet):Prop :=
 ∀(pins:eZ (IS×Obj)) (s:IX) (σ:St) (H:Hp) (o i v:V) (ov iv u:IT) (Q:Hp->Prop),Inv X pins σ H s->RelV o ov->RelV i iv->RelV v u->t o i v H Q->
   IU (IV X.prog X.w) X.A (setItem ov iv u) (λ_ s'=>∃H',Inv X pins σ H' s'/\Q H') X.xe s
def jh(i:fC):TG:=λv σ H Q=>Q (σ.set i (eV v)) H
theorem a2c(c:X.N.Nodup)(hi:X.N[i]?=eV x)(d:Loc X.env.scope x)(e:autoParam (X.fn x=eX\/X.env.scope.names.lookup x=eV .local) a0_):PG X (.Name x pos) (jh i):=by
 intro a s σ H v u Q I r h;exact EZ (vz I c hi d r (λs' b=>#[_,H,b,h]) e)
def gNil:TGs:=λvs σ H Q=>vs=[]/\Q σ H
inductive gConsS(t:TG)(u:TGs)(vs:eZ V)(σ:St)(H:Hp)(Q:St->Hp->Prop):Prop
 |mk (v:V)(r:eZ V)(h0:vs=v::r)(h1:t v σ H fun σ' H'=>u r σ' H' Q):gConsS t u vs σ H Q
def uo(t:TG)(u:TGs):TGs:=λvs σ H Q=>gConsS t u vs σ H Q
theorem a2p:PGs X [] gNil:=by
 intro a s σ H vs us Q I r h;let(e,h):=h;subst e;cases r;exact assignInOrder_nil #[σ,H,I,h]
theorem pw(h1:PG X e t)(h2:PGs X es u)(b:autoParam ((JB (e::es) X.env).map (·.2)=assign e X.env::(JB es X.env).map (·.2)) a4_):PGs X (e::es) (uo t u):=by
 intro a s σ H vs us Q I r h;let(v,k,c,h):=h;subst c;cases r with
 |cons r rr =>
  rw[b];refine assignInOrder_cons (thn (h1 a s σ H _ _ _ I r h) λ_ s1 j=>?_);let(d,g,f,i):=j;exact h2 a s1 d g _ _ Q f rr i
inductive gTupS(K:Aa)(n:fC)(t:TGs)(v:V)(σ:St)(H:Hp)(Q:St->Hp->Prop):Prop
 |mk (a:IS)(xs:eZ V)(h0:v=.ref a)(h1:SqT K H a xs)(h2:xs.length=n)(h3:t xs σ H Q):gTupS K n t v σ H Q
def gTup(K:Aa)(n:fC)(t:TGs):TG:=λv σ H Q=>gTupS K n t v σ H Q
theorem a5j(q:X.calm=eX)(h:PGs X es t)(hn:autoParam ((JB es X.env).length=n) a4_)(d:autoParam ((JB es X.env).findIdx? (·.1)=eW) a4_):PG X (.Tuple es k pos) (gTup X.K n t):=by
 intro c s σ H v u Q I r f;let(a,xs,j,l,hl,f):=f;subst j;cases r;let(its,g,i,hz):=I.tuple l;refine assign_Tuple_tuple (I.ok.hd q) i (by simp[hn,<- hl,g.length]) d λh' m=>?_;let p:Inv X c σ H {s with heap:=h'}:=I.kept (t':=s.toks) λb o e=>m b o (AB (Az e)) e;exact h c _ σ H xs _ Q p (by simpa using g) f
def gSub(to ti:TE)(t:TSet):TG:=λv σ H Q=>to σ H λo H1=>ti σ H1 λi H2=>t o i v H2 λH3=>Q σ H3
theorem aen(f:PE X o to)(hi:PE X i m)(l:PSet X t)(z:autoParam (∀v,assign (.Subscript o i pos) X.env v=(do
 let b<-holding [v] (eval o X.env);let c<-holding [v,b] (eval i X.env)
 standAt pos
 holding [v,b,c] (setItem b c v)
 release [v,b,c] [])) a3_):PG X (.Subscript o i pos) (gSub to m t):=by
 intro a s σ H v u Q I r h;rw[z];refine Ac (BH (thn (f a s σ H _ I h) λb s1 d=>?_));let(x,A,w,r1,j):=d;refine Ac (BH (thn (hi a s1 σ A _ w j) λc p d=>?_));let(y,g,e,r2,B):=d;refine Ac (Gv (Ac (BH (thn (l a p σ g x y v b c u _ e r1 r2 r B) λ_ C d=>?_))));let(n,k,q):=d;exact wpAny_release #[σ,n,k,q]
def tAsg(te:TE)(g:TG):TS:=λD σ H=>te σ H λx H1=>g x σ H1 D.nx
theorem af9(f:PE X e m)(c:PG X b g)(d:autoParam (swapsWithSole [b] e pos.line X.env=pure eY) a4_)(l:autoParam (swappedStores [b] e X.env=pure eW) a4_)(h1:autoParam ((JB [b] X.env).map (·.2)=[assign b X.env]) a4_):PS X (.Assign [b] e pos) (tAsg m g):=by
 intro a s σ H D I h;refine wpAny_Assign_stores (thn (f a s σ H _ I h) λv s1 #[x,j,i,r1,k]=>?_) d l;rw[h1];exact thn (c a s1 σ j x v _ i r1 k) λ_ n q=>q
theorem a81(f:X.N.Nodup)(hi:X.N[i]?=eV x)(g:Loc X.env.scope x)(j:PE X e o)(d:autoParam (JN e (eV (.Name x b)) pos.line X.env=pure eY) a4_)(n:autoParam (X.fn x=eX\/X.env.scope.names.lookup x=eV .local) a0_):
 PS X (.Assign [.Name x b] e pos) (tAsg o (jh i)):=by
 intro a s σ H D I h;refine wpAny_Assign_Name (thn (j a s σ H _ I h) λv s1 #[y,l,k,r1,m]=>?_) d;exact vz k f hi g r1 (λp c=>#[_,l,c,m]) n
def tf(c:TT)(tb:TS):TS:=λD σ H=>∃W:fC->St->Hp->Prop,(∃m,W m σ H)/\∀m σ H,W m σ H->
 c σ H λb H1=>if b=eX then ∃N:St->Hp->Prop,(∀σ' H',N σ' H'->∃m',m'<m/\W m' σ' H')/\tb {D with nx:=N,ct:=N,bk:=D.nx} σ H1 else D.nx σ H1
theorem ab4(hp:PassesOwn (IV X.prog X.w) X.A X.env X.xe)(z:PT X c B)(C:PSs X body y):PS X (.While c body [] pos) (tf B y):=by
 intro a s σ H D I h;let(W,(m0,E),d):=h;refine wpAny_While (codeAny_whileLoop (λn s'=>∃t H',Inv X a t H' s'/\W n t H') ?_ m0 #[σ,H,I,E]);rintro n s1 ⟨j,x,J,F⟩;refine Ct hp (thn (z a s1 j x _ J (d n j x F)) λb G L=>?_);let(r,q,i):=L;cases b with
 |true =>
  let(N,u,i):=i;rw[fE rfl];refine Ct hp (thn (C a G j r _ q i) λf M k=>?_);cases f with
  |next =>
   let(e,g,m,p):=k;let(l,hm,o):=u e g p;exact#[l,hm,e,g,m,o]
  |cont =>
   let(e,g,m,p):=k;let(l,hm,o):=u e g p;exact#[l,hm,e,g,m,o]
  |brk=>exact k
  |ret v=>exact k
 |false =>
  rw[fD Aw];exact El #[j,r,q,i]
structure It where
 go:fC->Hp->Prop
 yld:fC->Hp->V->Hp->Prop
 stop:fC->Hp->Prop
def FpOk(X:Cx)(pins:eZ (IS×Obj))(H:Hp)(b:IS):Prop :=
 H b=eW/\b≠X.env.locals/\b∉X.fs/\(b∈X.ex\/X.s₀.heap.objs.size<=b)/\(∀x c,X.env.cells.lookup x=eV c->c≠b)/\∀p∈X.pn++pins,p.1≠b
theorem Inv.fpOk(I:Inv X d σ H s)(a:s.heap.objs.size<=b)(hn:H' b=eW):FpOk X d H' b:=by
 refine#[hn,BQ (AD I.lt a),I.nofs a,.inr (AA I.sz a),λx c e z=>?_,λp hp z=>?_];let(v,q):=I.cell x c e;exact fF (AD q.lt (by rw[z];exact a)) (AZ _);exact fF (AD (Az (I.pin p hp).1) (by rw[z];exact a)) (AZ _)
structure Turn(P:JH)(w:JL)(K:Aa)(tg:Expr)(J:It)(fp:eZ IS)(it:IS)(tn:fC->JG->Prop):Prop where
 mem:it∈fp
 obj:∀i h,tn i h->∀b∈fp,∃o,h.get? b=eV o/\∀v,o.data≠.cell v
 keep:∀i h h',tn i h->(∀b∈fp,∀o,h.get? b=eV o->h'.get? b=eV o)->tn i h'
 item:∀(X:Cx),X.prog=P->X.w=w->X.K=K->X.calm=eX->∀(i:fC) (pins:eZ (IS×Obj)) (s:IX) (σ:St) (H:Hp) (E:IT->IX->Prop),Inv X pins σ H s->(∀b∈fp,FpOk X pins H b)->tn i s.heap->J.go i H->
  IU (IV P w) X.A (JM (.ref it)) (λr s1=>∃u,r=eV u/\
   IU (IV P w) X.A (letOwnedTupleGo tg (.ref it) u) (λ_ s2=>∃x H',Inv X pins σ H' s2/\RelV x u/\J.yld i H x H'/\tn (i+1) s2.heap/\∀b∈fp,H' b=eW) E s1) E s
 done:∀(X:Cx),X.prog=P->X.w=w->X.K=K->X.calm=eX->∀(i:fC) (pins:eZ (IS×Obj)) (s:IX) (σ:St) (H:Hp) (E:IT->IX->Prop),Inv X pins σ H s->(∀b∈fp,FpOk X pins H b)->tn i s.heap->J.stop i H->
  IU (IV P w) X.A (JM (.ref it)) (λr s1=>r=eW/\Inv X pins σ H s1) E s
 self:∀(A:JW) (i:fC) (s:IX) (Q:IT->IX->Prop) (E:IT->IX->Prop),tn i s.heap->Q (.ref it) s->IU (IV P w) A (pyIter (.ref it)) Q E s
abbrev TI:=St->Hp->(It->Hp->Prop)->Prop
def PIE(X:Cx)(pins:eZ (IS×Obj))(σ:St)(tg:Expr)(R:It->Hp->Prop)(itv:IT)(s2:IX):Prop :=
 ∃(it:IS) (fp:eZ IS) (tn:fC->JG->Prop) (J:It) (H':Hp),itv=.ref it/\Inv X pins σ H' s2/\Turn X.prog X.w X.K tg J fp it tn/\tn 0 s2.heap/\(∀b∈fp,FpOk X pins H' b)/\R J H'
def PI(X:Cx)(tg iter:Expr)(wi:TI):Prop :=
 ∀(pins:eZ (IS×Obj)) (s:IX) (σ:St) (H:Hp) (R:It->Hp->Prop),Inv X pins σ H s->wi σ H R->
   IU (IV X.prog X.w) X.A (eval iter X.env) (λv s1=>IU (IV X.prog X.w) X.A (pyIter v) (PIE X pins σ tg R) X.xe s1) X.xe s
theorem zr(c:s.heap.get? it=eV o)(d:o.cls=.type n)(hd:o.data=.fields vs)(hn:["enumerate","zip","dict_itemiterator","dict_reverseitemiterator","odict_iterator","itertools.zip_longest","itertools.pairwise"].contains n=eY)(a:Q () s):IU M A (letOwnedTupleGo b (.ref it) u) Q E s:=by
 unfold letOwnedTupleGo;cases b<;>first
  |exact Al a
  | (cases u<;>first
   |exact Al a
   | (refine Ac (HV c ?_)
      rw[d,hd];show IU M A (if(["enumerate","zip","dict_itemiterator","dict_reverseitemiterator","odict_iterator","itertools.zip_longest","itertools.pairwise"].contains n && vs[0]?==eV (JU _))=eX then _ else _) Q E s;rw[fD (by intro h;rw[hn,Il] at h;cases h)];exact Al a))
def Itl(K:Aa)(a:IS):It :=
 #[λi H=>∃xs x,SqL K H a xs/\xs[i]?=eV x,λi H x H'=>H'=H/\∀xs,SqL K H a xs->xs[i]?=eV x,λi H=>∃xs,SqL K H a xs/\xs.length<=i]
def Itt(K:Aa)(a:IS):It :=
 #[λi H=>∃xs x,SqT K H a xs/\xs[i]?=eV x,λi H x H'=>H'=H/\∀xs,SqT K H a xs->xs[i]?=eV x,λi H=>∃xs,SqT K H a xs/\xs.length<=i]
def Itr(lo:fB)(n:fC):It:=#[λi _=>i<n,λi H x H'=>H'=H/\x=.int (lo+i),λi _=>n<=i]
theorem a7s{K:Aa}(a it:IS):Turn P w K T (Itl K a) [it] it (λi h=>h.IsListIter it a i) where
 mem:=by simp
 obj:=λi h st b g=>by
  let e:b=it:=by simpa using g
  subst e;let(o,e,c,d):=st;exact#[o,e,λv z=>by rw[d] at z;cases z]
 keep:=λi h h' st k=>st.at λo e=>k it (by simp) o e
 item:=by
  intro X F r A J i f s σ H E I l st y;subst F r A;let(xs,x,m,q):=y;let(its,C,p,hz):=I.list m;let(u,N,M):=C.get q;let(n,t,O,D,G,B):=l it (by simp);refine wpAny_pyNext_list_item st p.isList (x:=u) (by simpa using N) λh' j R=>?_;let S:Inv X f σ H {s with heap:=h'}:=I.turned (t':=s.toks) (λb o g e=>(R.2 b g).trans e) n t D G B;let(o,e,c,d):=id j;exact#[u,fR,zr (s:={s with heap:=h'}) e c d (by decide) #[x,H,S,M,#[rfl,λys L=>by rw[I.list_inj L m];exact q],j,λb g=>(l b g).1]]
 done:=by
  intro X F r A J i f s σ H E I l st y;subst F r A;let(xs,m,q):=y;let(its,C,p,hz):=I.list m;let(n,t,O,D,G,B):=l it (by simp);let hl:=C.length;exact wpAny_pyNext_list_end (I.ok.hd J) st p.isList (by simp;lia) λh' Q=>#[fR,I.turned (t':=s.toks) (λb o g e=>Q b o g e) n t D G B]
 self:=λ_ _ _ _ _ st h=>wpAny_pyIter_listiter st h
theorem a43{K:Aa}(a it:IS):Turn P w K T (Itt K a) [it] it (λi h=>h.IsTupleIter it a i) where
 mem:=by simp
 obj:=λi h st b g=>by
  let e:b=it:=by simpa using g
  subst e;let(o,e,c,d):=st;exact#[o,e,λv z=>by rw[d] at z;cases z]
 keep:=λi h h' st k=>st.at λo e=>k it (by simp) o e
 item:=by
  intro X F r A J i f s σ H E I l st y;subst F r A;let(xs,x,m,q):=y;let(its,C,p,hz):=I.tuple m;let(u,N,M):=C.get q;let(n,t,O,D,G,B):=l it (by simp);refine wpAny_pyNext_tuple_item st (show s.heap.IsTuple a its.toArray from p) (x:=u) (by simpa using N) λh' j R=>?_;let S:Inv X f σ H {s with heap:=h'}:=I.turned (t':=s.toks) (λb o g e=>(R.2 b g).trans e) n t D G B;let(o,e,c,d):=id j;exact#[u,fR,zr (s:={s with heap:=h'}) e c d (by decide) #[x,H,S,M,#[rfl,λys L=>by rw[I.tuple_inj L m];exact q],j,λb g=>(l b g).1]]
 done:=by
  intro X F r A J i f s σ H E I l st y;subst F r A;let(xs,m,q):=y;let(its,C,p,hz):=I.tuple m;let(n,t,O,D,G,B):=l it (by simp);let hl:=C.length;exact wpAny_pyNext_tuple_end (I.ok.hd J) st (show s.heap.IsTuple a its.toArray from p) (by simp;lia) λh' Q=>#[fR,I.turned (t':=s.toks) (λb o g e=>Q b o g e) n t D G B]
 self:=λ_ _ _ _ _ st h=>wpAny_pyIter_tupleiter st h
theorem a4n{K:Aa}(it:IS)(lo:fB)(n:fC):Turn P w K F (Itr lo n) [it] it (λi h=>IsRangeIter h it (lo+(i:fC)*1) ((n:fB)-(i:fC)) 1) where
 mem:=by simp
 obj:=λi h st b c=>by
  let e:b=it:=by simpa using c
  subst e;exact#[_,st,λv z=>by
   let A:Data.fields _=Data.cell v:=z;cases A]
 keep:=λi h h' st k=>k it (by simp) _ st
 item:=by
  intro X x l q j i a s σ H E I f st p;subst x l q;let(g,m,B,u,y,r):=f it (by simp);let W:=Walks.range (prog:=X.prog) (w:=X.w) (I.ok.hd j) it lo 1 n;refine W.item i s _ _ p st λv h' tk hv d kk=>?_;let(t,rfl):=hv;let D:Inv X a σ H {s with heap:=h',toks:=tk}:=I.turned (λb o c e=>kk b o (by simpa using c) e) g m u y r;refine#[_,fR,zr (s:={s with heap:=h',toks:=tk}) (n := "range_iterator") d rfl rfl (by decide) #[.int (lo+i),H,D,#[t,?_],#[rfl,rfl],d,λb c=>(f b c).1]];rw[Int.mul_one]
 done:=by
  intro X x l q j i a s σ H E I f st p;subst x l q;let(g,m,B,u,y,r):=f it (by simp);exact wpAny_pyNext_range_end (I.ok.hd j) st (by let:n<=i:=p;lia) λh' C=>#[fR,I.turned (t':=s.toks) (λb o c e=>C b o c e) g m u y r]
 self:=λ_ _ _ _ _ st h=>wpAny_pyIter_rangeiter st h
inductive iListS(K:Aa)(x:V)(H1:Hp)(R:It->Hp->Prop):Prop
 |mk (a:IS)(h0:x=.ref a)(h1:(∃xs,SqL K H1 a xs))(h2:R (Itl K a) H1):iListS K x H1 R
def acj(K:Aa)(tl:TE):TI:=fun σ H R=>tl σ H λx H1=>iListS K x H1 R
inductive iTupS(K:Aa)(x:V)(H1:Hp)(R:It->Hp->Prop):Prop
 |mk (a:IS)(h0:x=.ref a)(h1:(∃xs,SqT K H1 a xs))(h2:R (Itt K a) H1):iTupS K x H1 R
def iTup(K:Aa)(tl:TE):TI:=fun σ H R=>tl σ H λx H1=>iTupS K x H1 R
theorem a3f(hl:PE X l g):PI X n l (acj X.K g):=by
 intro c s σ H R I h;refine thn (hl c s σ H _ I h) λv s1 m=>?_;let(x,j,d,r1,k):=m;let(a,e,(xs,i),q):=k;subst e;cases r1;let(its,r,p,hz):=d.list i;refine DS p.isList ?_;refine#[s1.heap.objs.size,[s1.heap.objs.size],_,_,j,fR,d.kept (t':=s1.toks) λb o e=>Ai _ e,a7s a _,#[_,Ay _ rfl,fR,fR],λb f=>?_,q];let e:b=s1.heap.objs.size:=by simpa using f
 subst e;exact d.fpOk (An _) (d.hok.fresh (An _))
theorem a7f(hl:PE X l g):PI X n l (iTup X.K g):=by
 intro c s σ H R I h;refine thn (hl c s σ H _ I h) λv s1 m=>?_;let(x,j,d,r1,k):=m;let(a,e,(xs,i),q):=k;subst e;cases r1;let(its,r,p,hz):=d.tuple i;refine EK (show s1.heap.IsTuple a its.toArray from p) ?_;refine#[s1.heap.objs.size,[s1.heap.objs.size],_,_,j,fR,d.kept (t':=s1.toks) λb o e=>Ai _ e,a43 a _,#[_,Ay _ rfl,fR,fR],λb f=>?_,q];let e:b=s1.heap.objs.size:=by simpa using f
 subst e;exact d.fpOk (An _) (d.hok.fresh (An _))
theorem aal{lo:fB}(I:Inv X a σ H s)(h1 : -(2 ^ 62)<=lo)(h2:lo<2 ^ 62)(h3 : -(2 ^ 62)<=hi)(f:hi<2 ^ 62)(q:R (Itr lo (hi-lo).toNat) H):IU (IV X.prog X.w) X.A (pyIter (.ref s.heap.objs.size)) (PIE X a σ i R) E {s with heap:=s.heap.push {cls:=.type "range",data:=.fields [.int lo t,.int hi u,.int 1 v].toArray},toks:=tk}:=by
 refine wpAny_pyIter_range (IsRange.new ..) (small_one h1 h2 h3 f) ?_;let c:Inv X a σ H {s with heap:=s.heap.push {cls:=.type "range",data:=.fields [.int lo t,.int hi u,.int 1 v].toArray},toks:=tk}:=I.kept λb o e=>Ai _ e;refine#[(s.heap.push {cls:=.type "range",data:=.fields [.int lo t,.int hi u,.int 1 v].toArray}).objs.size,[(s.heap.push {cls:=.type "range",data:=.fields [.int lo t,.int hi u,.int 1 v].toArray}).objs.size],_,_,H,fR,
  c.kept (t':=tk) λb o e=>Ai _ e,a4n _ lo (hi-lo).toNat,?_,λb d=>?_,q]
 . let g:lo+((0:fC):fB)*1=lo:=by simp
   let h:(((hi-lo).toNat:fC):fB)-((0:fC):fB)=Builtin.Range.rangeSize lo hi 1:=by rw[rangeSize_one];split<;>lia
   show IsRangeIter _ _ (lo+((0:fC):fB)*1) ((((hi-lo).toNat:fC):fB)-((0:fC):fB)) 1;rw[g,h];exact Ay _ rfl
 let e:b=(s.heap.push {cls:=.type "range",data:=.fields [.int lo t,.int hi u,.int 1 v].toArray}).objs.size:=by simpa using d
 subst e;exact c.fpOk (An _) (c.hok.fresh (An _))
inductive iRng1S(vs:eZ V)(H1:Hp)(R:It->Hp->Prop):Prop
 |mk (j:fB)(h0:vs=[.int j])(h1 : -(2 ^ 62)<=j)(h2:j<2 ^ 62)(h3:R (Itr 0 j.toNat) H1):iRng1S vs H1 R
def abp(ta:TA):TI:=fun σ H R=>ta σ H λvs H1=>iRng1S vs H1 R
theorem a7a(d:Gl X "range")(hm:X.mg "range"=eW)(k:PA X [a] g)(f:autoParam (IW [a] X.env=[(eY,eval a X.env)]) a4_):PI X m (.Call (.Name "range" p) [a] [] pos) (abp g):=by
 intro b s σ H R I h;refine Call_ (rj I d hm boot_range (BY (thn (k pos b s σ H _ I h) λus s1 #[vs,n,i,r1,c]=>?_) f rfl));let(j,e,c,l,q):=c;subst e;cases r1 with
 |cons r rr =>
  cases rr;let(t,rfl):=r;exact call_range_1 (aal i (by lia) (by lia) c l (by simpa using q))
def tFor(wi:TI)(g:TG)(tb:TS):TS:=λD σ H=>wi σ H λJ H1=>∃W:fC->fC->St->Hp->Prop,(∃m,W 0 m σ H1)/\∀i m σ H,W i m σ H->
 (J.stop i H/\D.nx σ H)\/(J.go i H/\∃N:St->Hp->Prop,(∀σ' H',N σ' H'->∃m',m'<m/\W (i+1) m' σ' H')/\∀x H',J.yld i H x H'->g x σ H' fun σ2 H2=>tb {D with nx:=N,ct:=N,bk:=D.nx} σ2 H2)
def r9(fp:eZ IS)(h:JG):eZ (IS×Obj):=fp.filterMap λb=>(h.get? b).map λo=>(b,o)
theorem oy(a:b∈c)(e:h.get? b=eV o):(b,o)∈r9 c h:=Cc.mpr #[b,a,by rw[e];rfl]
theorem a5u(hp:p∈r9 d h):p.1∈d/\h.get? p.1=eV p.2:=by
 let(b,a,e):=Cc.mp hp;cases q:h.get? b with
 |none=>rw[q] at e;cases e
 |some o =>
  rw[q] at e;let c:(b,o)=p:=Am e;subst c;exact#[a,q]
theorem Inv.pinned(I:Inv X a σ H s)(k:∀b∈g,FpOk X a H b)(j:∀b∈g,∃o,s.heap.get? b=eV o/\∀v,o.data≠.cell v):Inv X (a++r9 g s.heap) σ H s :=
 I.pins_of λp hp=>(Ab.mp hp).elim (λz=>I.pin p (Bx _ z)) λz=>by
  let(c,e):=a5u z;let(i,l,h,_):=k p.1 c;let(o,f,d):=j p.1 c;rw[e] at f;cases f;exact#[e,i,l,h,d]
theorem Inv.unpinned(I:Inv X (a++pl) σ H s):Inv X a σ H s:=I.pins_of λp hp=>I.pin p (Bx _ (Gg _ hp))
theorem a5x(hp:PassesOwn (IV X.prog X.w) X.A X.env X.xe)(hc:X.calm=eX)(hi:PI X tg t wi)(hg:PG X tg g)(l:PSs X body tb)(hs:autoParam (∀x,JC t X.env x=pure x) a3_):PS X (.For tg t body [] pos) (tFor wi g tb):=by
 intro a s σ H D I h;refine wpAny_For (thn (hi a s σ H _ I h) λv s1 h1=>thn h1 λaa s2 h2=>?_) hs;let(it,L,tn,J,H2,e,I2,T,U,f2,W,(m0,w0),C):=h2;subst e;let c:∀{H':Hp},(∀b∈L,H' b=eW)->∀b∈L,FpOk X a H' b:=λhn b l=>#[hn b l,(f2 b l).2]
 refine codeAny_forLoop_any (λn s'=>∃i F H',Inv X a F H' s'/\tn i s'.heap/\(∀b∈L,H' b=eW)/\W i n F H') ?_ m0 #[0,σ,H2,I2,U,λb l=>(f2 b l).1,w0];rintro n s3 ⟨i,E,P,I3,G,O,w3⟩;rcases C i n E P w3 with⟨stop,qn⟩|⟨go,N,hN,step⟩
 . refine Ct hp (thn (T.done X rfl rfl rfl hc i a s3 E P X.xe I3 (c O) G stop) λr s4 B=>?_);let(Y,I4):=B;subst Y;exact El #[E,P,I4,qn]
 refine Ct hp (thn (T.item X rfl rfl rfl hc i a s3 E P X.xe I3 (c O) G go) λr s4 B=>?_);let(u,Y,h4):=B;subst Y;refine Ct hp (thn h4 λ_ Z B=>?_);let(x,H5,I5,r5,y5,z,S):=B;let Q:=I5.pinned (c S) (T.obj _ _ z);refine Ct hp (thn (hg _ Z E H5 x u _ Q r5 (step x H5 y5)) λ_ s6 B=>?_);let(σ6,H6,I6,q6):=B;refine Ct hp (thn (l _ s6 σ6 H6 _ I6 q6) λf R y=>?_);let j:∀{p:St} {k:Hp},Inv X (a++r9 L Z.heap) p k R->N p k->∃m,m<n/\∃i F H',Inv X a F H' R/\tn i R.heap/\(∀b∈L,H' b=eW)/\W i m F H':=λ{p k} q M=>by
  let(m',hm,w7):=hN p k M;refine#[m',hm,i+1,p,k,q.unpinned,T.keep _ _ _ z λb l o e=>(q.pin (b,o) (Bx _ (Bx _ (oy l e)))).1,λb l=>?_,w7];let(o,e,d):=T.obj _ _ z b l;exact(q.pin (b,o) (Bx _ (Bx _ (oy l e)))).2.1
 cases f with|next=>let(p,k,q,M):=y;exact j q M|cont=>let(p,k,q,M):=y;exact j q M|brk=>let(p,k,q,y):=y;exact#[p,k,q.unpinned,y]|ret v=>let(x7,p,k,q,r7,y):=y;exact#[x7,p,k,q.unpinned,r7,y]
theorem jj{K:Aa}{g:TG}{h:TS}{D:Ends}(Pv:fC->St->Hp->Prop)(k:Pv 0 σ H)(hl:∀i σ H,i<=xs.length->Pv i σ H->SqL K H a xs)(l:∀i x σ H,xs[i]?=eV x->Pv i σ H->let N:=Pv (i+1);g x σ H λd f=>h {D with nx:=N,ct:=N,bk:=D.nx} d f)(hd:∀σ H,Pv xs.length σ H->D.nx σ H):
 ∃W:fC->fC->St->Hp->Prop,(∃m,W 0 m σ H)/\∀i m σ H,W i m σ H->
  ((Itl K a).stop i H/\D.nx σ H)\/((Itl K a).go i H/\∃N:St->Hp->Prop,(∀c H',N c H'->∃j,j<m/\W (i+1) j c H')/\∀x H',(Itl K a).yld i H x H'->g x σ H' λd f=>h {D with nx:=N,ct:=N,bk:=D.nx} d f):=by
 exists λi m σ H=>m=xs.length-i/\i<=xs.length/\Pv i σ H,#[xs.length,by simp,AF _,k];rintro i m σ H ⟨rfl,hi,p⟩;let q:=hl i σ H hi p;by_cases b:i<xs.length;refine .inr #[#[xs,xs[i],q,by simp[b]],Pv (i+1),λc H' n=>#[xs.length-(i+1),by lia,fR,b,n],λx H' y=>?_];let(e,y):=y;subst e;exact l i x σ _ (y xs q) p
 let e:i=xs.length:=by lia
 subst e;exact .inl #[#[xs,q,An _],hd σ H p]
theorem a3x{K:Aa}{g:TG}{h:TS}{D:Ends}(Pv:fC->St->Hp->Prop)(k:Pv 0 σ H)(hl:∀i σ H,i<=xs.length->Pv i σ H->SqT K H a xs)(l:∀i x σ H,xs[i]?=eV x->Pv i σ H->let N:=Pv (i+1);g x σ H λd f=>h {D with nx:=N,ct:=N,bk:=D.nx} d f)(hd:∀σ H,Pv xs.length σ H->D.nx σ H):
 ∃W:fC->fC->St->Hp->Prop,(∃m,W 0 m σ H)/\∀i m σ H,W i m σ H->
  ((Itt K a).stop i H/\D.nx σ H)\/((Itt K a).go i H/\∃N:St->Hp->Prop,(∀c H',N c H'->∃j,j<m/\W (i+1) j c H')/\∀x H',(Itt K a).yld i H x H'->g x σ H' λd f=>h {D with nx:=N,ct:=N,bk:=D.nx} d f):=by
 exists λi m σ H=>m=xs.length-i/\i<=xs.length/\Pv i σ H,#[xs.length,by simp,AF _,k];rintro i m σ H ⟨rfl,hi,p⟩;let q:=hl i σ H hi p;by_cases b:i<xs.length;refine .inr #[#[xs,xs[i],q,by simp[b]],Pv (i+1),λc H' n=>#[xs.length-(i+1),by lia,fR,b,n],λx H' y=>?_];let(e,y):=y;subst e;exact l i x σ _ (y xs q) p
 let e:i=xs.length:=by lia
 subst e;exact .inl #[#[xs,q,An _],hd σ H p]
theorem kd{lo:fB}{g:TG}{f:TS}{D:Ends}(Pv:fC->St->Hp->Prop)(j:Pv 0 σ H)(k:∀i σ H,i<n->Pv i σ H->let N:=Pv (i+1);g (.int (lo+i)) σ H λc d=>f {D with nx:=N,ct:=N,bk:=D.nx} c d)(hd:∀σ H,Pv n σ H->D.nx σ H):
 ∃W:fC->fC->St->Hp->Prop,(∃m,W 0 m σ H)/\∀i m σ H,W i m σ H->
  ((Itr lo n).stop i H/\D.nx σ H)\/((Itr lo n).go i H/\∃N:St->Hp->Prop,(∀b H',N b H'->∃h,h<m/\W (i+1) h b H')/\∀x H',(Itr lo n).yld i H x H'->g x σ H' λc d=>f {D with nx:=N,ct:=N,bk:=D.nx} c d):=by
 exists λi m σ H=>m=n-i/\i<=n/\Pv i σ H,#[n,by simp,AF _,j];rintro i m σ H ⟨rfl,hi,p⟩;by_cases a:i<n;refine .inr #[a,Pv (i+1),λb H' l=>#[n-(i+1),by lia,fR,a,l],λx H' y=>?_];let(e,y):=y;subst e y;exact k i σ _ a p
 let e:i=n:=by lia
 subst e;exact .inl #[An _,hd σ H p]
theorem a1j(Pv:St->Hp->Prop)(μ:St->Hp->fC)(f:Pv σ H)(g:∀σ H,Pv σ H->let N:St->Hp->Prop:=λd H'=>Pv d H'/\μ d H'<μ σ H;c σ H λb a=>if b=eX then h {D with nx:=N,ct:=N,bk:=D.nx} σ a else D.nx σ a)(mono:∀σ H Q e,(∀b a,Q b a->e b a)->c σ H Q->c σ H e):tf c h D σ H:=by
 exists λm σ H=>m=μ σ H/\Pv σ H,#[_,fR,f];rintro m σ H ⟨rfl,p⟩;refine mono σ H _ _ (λb a q=>?_) (g σ H p);cases b with|true=>exact#[_,λd H' #[i,l]=>#[_,l,fR,i],q]|false=>exact q
abbrev R2:=V->V->Hp->VK->Prop
def OpR(X:Cx)(f:IT->IT->Sem IT)(r:R2):Prop :=
 ∀(pins:eZ (IS×Obj)) (s:IX) (σ:St) (H:Hp) (x y:V) (v u:IT) (Q:VK),Inv X pins σ H s->RelV x v->RelV y u->r x y H Q->
   IU (IV X.prog X.w) X.A (f v u) (EP X pins σ Q) X.xe s
def UnR(X:Cx)(f:IT->Sem IT)(r:V->Hp->VK->Prop):Prop :=
 ∀(pins:eZ (IS×Obj)) (s:IX) (σ:St) (H:Hp) (x:V) (v:IT) (Q:VK),Inv X pins σ H s->RelV x v->r x H Q->
   IU (IV X.prog X.w) X.A (f v) (EP X pins σ Q) X.xe s
def kb(X:Cx)(f:IT)(r:eZ V->Hp->VK->Prop):Prop :=
 ∀(pins:eZ (IS×Obj)) (s:IX) (σ:St) (H:Hp) (xs:eZ V) (us:eZ IT) (Q:VK),Inv X pins σ H s->Vals xs us->r xs H Q->
   IU (IV X.prog X.w) X.A (call f us) (EP X pins σ Q) X.xe s
def TruR(X:Cx)(r:V->Hp->(gQ->Hp->Prop)->Prop):Prop :=
 ∀(pins:eZ (IS×Obj)) (s:IX) (σ:St) (H:Hp) (x:V) (v:IT) (Q:gQ->Hp->Prop),Inv X pins σ H s->RelV x v->r x H Q->
   IU (IV X.prog X.w) X.A (truthy v) (TP X pins σ Q) X.xe s
def tOp(r:R2)(ta tb:TE):TE:=fun σ H Q=>ta σ H λx H1=>tb σ H1 λy H2=>r x y H2 Q
def tUn(r:V->Hp->VK->Prop)(ta:TE):TE:=fun σ H Q=>ta σ H λx H1=>r x H1 Q
inductive rIS(C:fB->fB->Prop)(g:fB->fB->V)(x y:V)(H:Hp)(Q:VK):Prop
 |mk (i j:fB)(h0:x=.int i)(h1:y=.int j)(h2:C i j)(h3:Q (g i j) H):rIS C g x y H Q
def rI(C:fB->fB->Prop)(g:fB->fB->V):R2:=λx y H Q=>rIS C g x y H Q
inductive rI0S(g:fB->fB->V)(x y:V)(H:Hp)(Q:VK):Prop
 |mk (i j:fB)(h0:x=.int i)(h1:y=.int j)(h2:Q (g i j) H):rI0S g x y H Q
def rI0(g:fB->fB->V):R2:=λx y H Q=>rI0S g x y H Q
inductive rUS(g:fB->V)(x:V)(H:Hp)(Q:VK):Prop
 |mk (i:fB)(h0:x=.int i)(h1:Q (g i) H):rUS g x H Q
def rU(g:fB->V):V->Hp->VK->Prop:=λx H Q=>rUS g x H Q
theorem binT(q:PE X a o)(k:PE X b l){R:V->V->Hp->Prop}(I:Inv X c σ H s)(h:o σ H λx g=>l σ g λy d=>R x y d){f:IT->IT->Sem IT}(t:∀v u e x y d,Inv X c σ d e->RelV x v->RelV y u->R x y d->IU (IV X.prog X.w) X.A (f v u) Q X.xe e):
 IU (IV X.prog X.w) X.A (eval a X.env) (λv n=>IU (IV X.prog X.w) X.A (eval b X.env) (λu m=>IU (IV X.prog X.w) X.A (f v u) Q X.xe m) X.xe n) X.xe s:=by
 refine thn (q c s σ H _ I h) λv s1 i=>?_;let(x,g,p,r1,r):=i;refine thn (k c s1 σ g _ p r) λu e i=>?_;let(y,d,j,r2,z):=i;exact t v u e x y d j r1 r2 z
theorem abn(i:OpR X (JQ op) r)(m:PE X a k)(e:PE X b f):PE X (.BinOp a op b pos) (tOp r k f):=by
 intro c s σ H Q I h;exact wpAny_BinOp (binT m e I h λv u l x y j d g n q=>i c l σ j x y v u Q d g n q)
theorem ag4(c:UnR X (unaryOp op) r)(f:PE X a d):PE X (.UnaryOp op a pos) (tUn r d):=by
 intro b s σ H Q I h;exact UnaryOp_ (thn (f b s σ H _ I h) λv s1 #[x,g,e,r1,i]=>c b s1 σ g x v Q e r1 i)
theorem opI{g:fB->fB->fB}(a:∀(i j:fB) (t u:Tok) (s:IX) (Q:IT->IX->Prop) (E:IT->IX->Prop),C i j->Q (.int (g i j) s.toks) {s with toks:=s.toks+1}->IU (IV X.prog X.w) X.A (f (.int i t) (.int j u)) Q E s):
 OpR X f (rI C λi j=>.int (g i j)):=by
 intro b s σ H x y v u Q I c e h;let(i,j,rfl,rfl,d,q):=h;let(t,rfl):=c;let(t',rfl):=e;exact a i j t t' s _ _ d #[.int (g i j),H,I.tok _,#[_,fR],q]
theorem opI0{g:fB->fB->fB}(a:∀(i j:fB) (t u:Tok) (s:IX) (Q:IT->IX->Prop) (E:IT->IX->Prop),Q (.int (g i j) s.toks) {s with toks:=s.toks+1}->IU (IV X.prog X.w) X.A (f (.int i t) (.int j u)) Q E s):
 OpR X f (rI0 λi j=>.int (g i j)):=by
 intro b s σ H x y v u Q I c d h;let(i,j,rfl,rfl,q):=h;let(t,rfl):=c;let(t',rfl):=d;exact a i j t t' s _ _ #[.int (g i j),H,I.tok _,#[_,fR],q]
theorem opB0{g:fB->fB->gQ}(a:∀(i j:fB) (t u:Tok) (s:IX) (Q:IT->IX->Prop) (E:IT->IX->Prop),Q (.bool (g i j)) s->IU (IV X.prog X.w) X.A (f (.int i t) (.int j u)) Q E s):
 OpR X f (rI0 λi j=>.bl (g i j)):=by
 intro b s σ H x y v u Q I c d h;let(i,j,rfl,rfl,q):=h;let(t,rfl):=c;let(t',rfl):=d;exact a i j t t' s _ _ #[.bl (g i j),H,I,fR,q]
def CDiv(i j:fB):Prop:=0<j/\j<1073741824
def CPow(i j:fB):Prop:=0<=j/\j<=1000000/\i.natAbs<2 ^ 64
def CMul(i j:fB):Prop:=(-(2 ^ 64)<i/\i<2 ^ 64)\/(-(2 ^ 64)<j/\j<2 ^ 64)
theorem CMul.ok(h:CMul i j):IntMulOk i j:=by
 rcases h with⟨h1,h2⟩|⟨h1,h2⟩
 . exact .of_left (intBits_le_64 h1 h2)
 exact .of_right (intBits_le_64 h1 h2)
theorem i3:OpR X (JQ .Add) (rI0 λi j=>.int (i+j)):=opI0 λ_ _ _ _ _ _ _ q=>add_int q
theorem a07:OpR X (JQ .Sub) (rI0 λi j=>.int (i-j)):=opI0 λ_ _ _ _ _ _ _ q=>sub_int q
theorem li:OpR X (JQ .Mult) (rI CMul λi j=>.int (i*j)):=opI λ_ _ _ _ _ _ _ a q=>mul_int q a.ok
theorem ib:OpR X (JQ .FloorDiv) (rI CDiv λi j=>.int (i / j)):=opI λi j _ _ _ _ _ a q=>by
 let h1:(0:fB)<j:=a.1;let h2:j<1073741824:=a.2;exact floordiv_int (by lia) (by rw[ER i (by lia)];exact q) (.inl (PyProof.noPylong_small (by lia)))
theorem gx:OpR X (JQ .Mod) (rI (λ_ j=>0<j) λi j=>.int (i % j)):=opI λi j _ _ _ _ _ a q=>by
 let h1:(0:fB)<j:=a;exact mod_int' (by lia) (by rw[Int.fmod_eq_emod_of_nonneg i (by lia)];exact q)
theorem afl:OpR X (JQ .Pow) (rI CPow λi j=>.int (i ^ j.toNat)):=opI λ_ _ _ _ _ _ _ a q=>pow_int_small a.1 a.2.1 a.2.2 q
theorem unI{g:fB->fB}(a:∀(i:fB) (t:Tok) (s:IX) (Q:IT->IX->Prop) (E:IT->IX->Prop),Q (.int (g i) s.toks) {s with toks:=s.toks+1}->IU (IV X.prog X.w) X.A (f (.int i t)) Q E s):
 UnR X f (rU λi=>.int (g i)):=by
 intro b s σ H x v Q I c h;let(i,rfl,q):=h;let(t,rfl):=c;exact a i t s _ _ #[.int (g i),H,I.tok _,#[_,fR],q]
theorem t8:UnR X (unaryOp .USub) (rU λi=>.int (-i)):=unI λ_ _ _ _ _ q=>neg_int q
def scal:V->V->gQ
 |.non,.non=>eX|.non,.int _=>eX|.int _,.non=>eX|.non,.bl _=>eX|.bl _,.non=>eX|.non,.str _=>eX|.str _,.non=>eX
 |.int _,.int _=>eX|.bl _,.bl _=>eX|.str _,.str _=>eX|.byt _,.byt _=>eX
 |.int _,.str _=>eX|.str _,.int _=>eX|.bl _,.str _=>eX|.str _,.bl _=>eX
 |_,_=>eY
def rEq:R2:=λx y H Q=>scal x y=eX/\Q (.bl (decide (x=y))) H
def rNe:R2:=λx y H Q=>scal x y=eX/\Q (.bl (!decide (x=y))) H
theorem a2f:decide (V.int i=V.int j)=(i==j):=by
 rw[Bm];simp
theorem a5h:decide (V.bl i=V.bl j)=(i==j):=by
 rw[Bm];simp
theorem a3o:decide (V.str i=V.str j)=(i==j):=by
 rw[Bm];simp
theorem a31:decide (V.byt i=V.byt j)=(i.toList==j.toList):=by
 rw[Bm];cases i;cases j;simp
theorem io(I:Inv X a σ H s)(q:Q (.bl k) H)(e:k=b):EP X a σ Q (.bool b) s:=by
 subst e;exact#[.bl k,H,I,fR,q]
theorem gk:OpR X (JD .Eq) rEq:=by
 intro d s σ H x y v u Q I c a h;let(b,q):=h;cases x with
 |non =>
  cases c;cases y with|non=>cases a;exact PySem.EqNone.eq_none_none (io I q (by simp))|bl j=>cases a;exact PySem.EqNone.eq_none_bool (io I q (by simp))|int j=>let(t',rfl):=a;exact PySem.EqNone.eq_none_int (io I q (by simp))|str j=>let(t',rfl):=a;exact PySem.EqNone.eq_none_str (io I q (by simp))|_=>exact fF (show eY=eX from b) Aw
 |bl i =>
  cases c;cases y with|non=>cases a;exact PySem.EqNone.eq_bool_none (io I q (by simp))|bl j=>cases a;exact eq_bool (io I q a5h)|str j=>let(t',rfl):=a;exact PySem.EqMixed.eq_bool_str (io I q (by simp))|_=>exact fF (show eY=eX from b) Aw
 |int i =>
  let(t,rfl):=c;cases y with|non=>cases a;exact PySem.EqNone.eq_int_none (io I q (by simp))|int j=>let(t',rfl):=a;exact eq_int (io I q a2f)|str j=>let(t',rfl):=a;exact PySem.EqMixed.eq_int_str (io I q (by simp))|_=>exact fF (show eY=eX from b) Aw
 |str i =>
  let(t,rfl):=c;cases y with|non=>cases a;exact PySem.EqNone.eq_str_none (io I q (by simp))|bl j=>cases a;exact PySem.EqMixed.eq_str_bool (io I q (by simp))|int j=>let(t',rfl):=a;exact PySem.EqMixed.eq_str_int (io I q (by simp))|str j=>let(t',rfl):=a;exact eq_str (io I q a3o)|_=>exact fF (show eY=eX from b) Aw
 |byt i =>
  let(t,rfl):=c;cases y with|byt j=>let(t',rfl):=a;exact PySem.W.eq_bytes (io I q a31)|_=>exact fF (show eY=eX from b) Aw
 |_=>cases y<;>exact fF (show eY=eX from b) Aw
theorem kc:OpR X (JD .NotEq) rNe:=by
 intro d s σ H x y v u Q I c a h;let(b,q):=h;cases x with
 |non =>
  cases c;cases y with|non=>cases a;exact PySem.EqNone.ne_none_none (io I q (by simp))|bl j=>cases a;exact PySem.EqNone.ne_none_bool (io I q (by simp))|int j=>let(t',rfl):=a;exact PySem.EqNone.ne_none_int (io I q (by simp))|str j=>let(t',rfl):=a;exact PySem.EqNone.ne_none_str (io I q (by simp))|_=>exact fF (show eY=eX from b) Aw
 |bl i =>
  cases c;cases y with|non=>cases a;exact PySem.EqNone.ne_bool_none (io I q (by simp))|bl j=>cases a;exact ne_bool (io I q (fX not a5h))|str j=>let(t',rfl):=a;exact PySem.EqMixed.ne_bool_str (io I q (by simp))|_=>exact fF (show eY=eX from b) Aw
 |int i =>
  let(t,rfl):=c;cases y with|non=>cases a;exact PySem.EqNone.ne_int_none (io I q (by simp))|int j=>let(t',rfl):=a;exact ne_int (io I q (fX not a2f))|str j=>let(t',rfl):=a;exact PySem.EqMixed.ne_int_str (io I q (by simp))|_=>exact fF (show eY=eX from b) Aw
 |str i =>
  let(t,rfl):=c;cases y with|non=>cases a;exact PySem.EqNone.ne_str_none (io I q (by simp))|bl j=>cases a;exact PySem.EqMixed.ne_str_bool (io I q (by simp))|int j=>let(t',rfl):=a;exact PySem.EqMixed.ne_str_int (io I q (by simp))|str j=>let(t',rfl):=a;exact ne_str (io I q (fX not a3o))|_=>exact fF (show eY=eX from b) Aw
 |byt i =>
  let(t,rfl):=c;cases y with|byt j=>let(t',rfl):=a;exact PySem.W.ne_bytes (io I q (fX not a31))|_=>exact fF (show eY=eX from b) Aw
 |_=>cases y<;>exact fF (show eY=eX from b) Aw
theorem uq:OpR X (JD .Lt) (rI0 λi j=>.bl (decide (i<j))):=opB0 λ_ _ _ _ _ _ _ q=>lt_int q
theorem zo:OpR X (JD .Gt) (rI0 λi j=>.bl (decide (j<i))):=opB0 λ_ _ _ _ _ _ _ q=>gt_int q
theorem lu:OpR X (JD .Is) (λx y H Q=>y=.non/\Q (.bl (decide (x=.non))) H):=by
 intro a s σ H x y v u Q I b c h;let(rfl,q):=h;cases c;refine is_none_gen (io I q ?_);cases x<;>first
  | (cases b;rfl)
  | (let(t,rfl):=b;rfl)
theorem xf:OpR X (JD .IsNot) (λx y H Q=>y=.non/\Q (.bl (!decide (x=.non))) H):=by
 intro a s σ H x y v u Q I b c h;let(rfl,q):=h;cases c;refine isnot_none_gen (io I q ?_);cases x<;>first
  | (cases b;rfl)
  | (let(t,rfl):=b;rfl)
theorem fm(b:Expr)(h:autoParam (op≠.In) a1_)(h2:autoParam (op≠.NotIn) a1_):JE op b=eY:=by
 let a:(op==CmpOp.In)=eY:=by cases op<;>first|rfl|exact fF rfl h
 let c:(op==CmpOp.NotIn)=eY:=by cases op<;>first|rfl|exact fF rfl h2
 cases b<;>simp[JE,a,c]
theorem adq(i:OpR X (JD op) r)(m:PE X a k)(e:PE X b f)(hm:JE op b=eY):PE X (.Compare a [op] [b] pos) (tOp r k f):=by
 intro c s σ H Q I h;exact wpAny_Compare1 (binT m e I h λv u l x y j d g n q=>i c l σ j x y v u Q d g n q) hm
inductive tTestS(x:V)(H':Hp)(Q:gQ->Hp->Prop):Prop
 |mk (k:gQ)(h0:x=.bl k)(h1:Q k H'):tTestS x H' Q
def a45(t:TE):TT:=fun σ H Q=>t σ H λx H'=>tTestS x H' Q
theorem a3u(i:OpR X (JD op) r)(B:PE X a l)(n:PE X b g)(hm:JE op b=eY):PT X (.Compare a [op] [b] pos) (a45 (tOp r l g)):=by
 intro d s σ H Q I h;refine FR (thn (B d s σ H _ I h) λv s1 #[x,C,A,r1,m]=>thn (n d s1 σ C _ A m) λu t #[y,j,f,r2,D] =>
  thn (i d t σ j x y v u _ f r1 r2 D) λc E #[z,q,o,p,k,e,w]=>?_) hm
 subst e;cases p;exact BL #[q,o,w]
def TruV(K:Aa)(x:V)(H:Hp)(k:gQ):Prop :=
 match x with
 |.non=>k=eY
 |.bl b=>k=b
 |.int i=>k=(i != 0)
 |.str y=>y.length<=IR/\k=((y.length:fB) != 0)
 |.byt y=>y.size<=IR/\k=((y.size:fB) != 0)
 |.ref p=>(∃xs,SqL K H p xs/\k = !xs.isEmpty)\/(∃xs,SqT K H p xs/\k = !xs.isEmpty)\/∃kvs,H p=eV (.dK kvs)/\k = !kvs.isEmpty
 |_=>False
theorem a4q(r:KV kvs vs):(!vs.isEmpty) = !kvs.isEmpty:=by
 cases r<;>rfl
theorem wc(r:Vals xs its):(!its.toArray.isEmpty) = !xs.isEmpty:=by
 cases r<;>simp
theorem r8:(IR:fC)<2 ^ 63:=by rw[D3];decide
theorem aes:TruR X (λx H Q=>∃k,TruV X.K x H k/\Q k H):=by
 intro g s σ H x v Q I d h;let(k,e,q):=h;let hl:=r8;let n:IR=16777216:=D3;cases x with
 |non =>
  cases d;let a:k=eY:=e;subst a;exact truthy_none #[H,I,q]
 |bl b =>
  cases d;let a:k=b:=e;subst a;exact BL #[H,I,q]
 |int i =>
  let(t,rfl):=d;let a:k=(i != 0):=e;subst a;exact PySem.P.truthy_int #[H,I,q]
 |str y =>
  let(t,rfl):=d;obtain⟨j,a⟩:y.length<=IR/\k=((y.length:fB) != 0):=e;subst a;exact PySem.P.truthy_str (by lia) #[H,I.tok _,q]
 |byt y =>
  let(t,rfl):=d;obtain⟨j,a⟩:y.size<=IR/\k=((y.size:fB) != 0):=e;subst a;exact PySem.W.truthy_bytes (by lia) #[H,I.tok _,q]
 |ref p =>
  cases d;let a:(∃xs,SqL X.K H p xs/\k = !xs.isEmpty)\/(∃xs,SqT X.K H p xs/\k = !xs.isEmpty)\/∃kvs,H p=eV (.dK kvs)/\k = !kvs.isEmpty:=e;rcases a with⟨xs,f,a⟩|⟨xs,f,a⟩|⟨kvs,f,a⟩
  . subst a;let(its,r,pl,hz):=I.list f;let c:=r.length;exact wpAny_truthy_list pl.isList (by simp only[A0];lia) #[H,I.tok _,by rw[wc r];exact q]
  . subst a;let(its,r,pl,hz):=I.tuple f;let c:=r.length;exact truthy_tuple pl (by simp only[A0];lia) #[H,I.tok _,by rw[wc r];exact q]
  subst a;obtain⟨hz,l,vs,r,m⟩:kvs.length<=IR/\(p==JI)=eY/\∃vs,KV kvs vs/\s.heap.DictOf (i4 X.prog X.w) p vs:=I.hok p _ f;let c:kvs.length=vs.length:=A3 r;exact wpAny_truthy_dict l m (by lia) #[H,I.tok _,by rw[a4q r];exact q]
 |_=>exact(show False from e).elim
theorem a95(f:PE X a c)(d:∀whole,isTrue a X.env whole=(do let v<-whole;standAt a.pos;holding [v] (truthy v))):
 PT X a (fun σ H Q=>c σ H λx H'=>∃k,TruV X.K x H' k/\Q k H'):=by
 intro b s σ H Q I h;exact isTrue_plain (thn (f b s σ H _ I h) λv s1 #[x,g,e,r1,i]=>aes b s1 σ g x v Q e r1 i) (d _)
theorem ou:OpR X (JQ .Add) (λx y H Q=>∃i j,x=.str i/\y=.str j/\i.length+j.length<=IR/\Q (.str (i++j)) H):=by
 intro a s σ H x y v u Q I b c h;let(i,j,rfl,rfl,hz,q):=h;let(t,rfl):=b;let(t',rfl):=c;exact add_str (λt' tk=>#[.str (i++j),H,I.tok _,#[_,fR],q]) hz
theorem ux(r:Vals [x] us):∃u,us=[u]/\RelV x u:=by
 cases r with|cons r1 r2=>cases r2;exact#[_,fR,r1]
theorem agg(r:Vals [x,y] us):∃u a,us=[u,a]/\RelV x u/\RelV y a:=by
 cases r with
 |cons r1 r2 =>
  cases r2 with|cons r3 r4=>cases r4;exact#[_,_,fR,r1,r3]
theorem a5s(c:X.calm=eX):kb X (.builtin "min") (λxs H Q=>∃i j,xs=[.int i,.int j]/\Q (.int (if j<i then j else i)) H):=by
 intro b s σ H xs us Q I r h;let(i,j,rfl,q):=h;let(u,d,rfl,(t,rfl),(t',rfl)):=agg r;refine min_two_ints (I.ok.hd c) λh' tk k=>#[_,H,I.kept k,?_,q]
 by_cases a:j<i;rw[fE a,fE a];exact#[_,fR];rw[fD a,fD a];exact#[_,fR]
structure ObjM(h:JG)(x dx C:IS)(mA:fS->fA IT):Prop where
 obj:h.get? x=eV (Ce C dx)
 ns:h.Ns1 dx mA
 ne:dx≠x
theorem a6f{h:JG}(n:h.Ns1 j f):∃od,h.get? j=eV od/\∀name,E7 name od=eV (f name):=by
 let(o,es,ep,i,hd,g,_,hm):=n;refine#[o,i,λname=>?_];let e:=hm name;unfold nsFind findBy at e;rw[<- He] at e;unfold E7;rw[hd];dsimp only;split;rename_i y q;rw[q] at e;exact fX eV e
 rename_i q;rw[q] at e;let a:es.toList.any (·.refKey)=eY:=by
  rw[List.any_eq_false];intro y d;let(z,t,b):=g y (Array.mem_toList_iff.mp d);simp[DictEntry.refKey,b]
 let c:¬ es.toList.any (·.refKey)=eX:=by rw[a];exact Aw
 rw[fD c];exact fX eV e
theorem ObjM.look(I:ObjM h x b C a):∃od,PySem.W.InstAt h x (Ce C b) C (eV od)/\∀name,E7 name od=eV (a name) :=
 let ⟨od,ho,hl⟩:=a6f I.ns
 #[od,#[I.obj,fR,fR,ho],hl]
theorem ae1{K:Aa}(X:K.In s.heap)(I:ObjM s.heap x g C d)(c:CG K C name=eX)(e:Dc K C=eX)(f:AS K (.ref C) name=eV eW)(hv:d name=eV v)(a:HG v=eX)(h:Q v {s with toks:=s.toks+1}):
 IU (IV prog w) A (getAttr (.ref x) name b) Q E s:=by
 let(od,J,hl):=I.look;exact PySem.W.get_value X J (E5 c).1 (PySem.W.findObj_own e f rfl (by rw[hl,hv])) a h
theorem aat{K:Aa}(X:K.In s.heap)(I:ObjM s.heap x e C b)(a:CG K C name=eX)(d:AS K (.ref C) name=eV (eV (.ref f)))(c:Fj K (.ref f)=eX)(hv:b name=eW)(h:Q (.ref f,[.ref x]) s):
 IU (IV prog w) A (getMethod (.ref x) name pl) Q E s:=by
 let(od,J,hl):=I.look;exact PySem.W.method_fn X J (E5 a).1 (E5 a).2 d (beq_iff_eq.mp c) (by show(E7 name od).map (·.isSome)=eV eY;rw[hl,hv];rfl) h
theorem acn{K:Aa}(X:K.In s.heap)(I:ObjM s.heap x e C k)(q:AS K (.ref C) "__setattr__"=eV (eV (.builtin "object.__setattr__")))(hp:DT K C=eX)(l:FC K C name=eV eW)(t:Dc K C=eX)(o:Ha k ns)(hsz:ns.length<=IR)(h:∀h',ObjM h' x e C (λy=>if y=name then eV v else k y)->BE e s.heap h'->Q () {s with heap:=h',toks:=s.toks+2}):
 IU (IV prog w) A (setAttr (.ref x) name v) Q E s:=by
 let(od,J,hl):=I.look;refine PySem.W.set_plain X J q (PySem.W.osa_open (s:={s with toks:=s.toks+1}) (r:=eW) X J hp l λb=>?_);let(z,n,g):=PySem.W.any_some t;let m:s.heap.get? x=eV #[.ref C,eV e,.plain,[].toArray]:=I.obj;refine Ac (Al (Ac (Ac (wpAny_loadPart m (Ac (PySem.W.Looks.here (s:={s with toks:=s.toks+1}) (PySem.W.looks_clsIn X n) ?_))))));rw[g];refine Al (a:=eV e) (Ac (Al (Ac ?_)));refine wpAny_nsSet1 (s:={s with toks:=s.toks+1}) I.ns λh' d c=>?_;let(B,p,u,j,f,i):=d.count (PySem.Within.cons name v o);refine Ac (wpAny_lookBehind j (by rw[f];exact pastItsLine_dict (AA i (by rw[Au];lia))) ?_);exact Al (h _ #[(c.2 _ (AE I.ne)).trans I.obj,d,I.ne] c)
theorem ab0{K:Aa}(X:K.In s.heap)(hm:Em K C=eX)(hi:AS K (.ref C) "__init__"=eV (eV (.ref f)))(a:PySem.W.typeIn K (.ref f)=eV (.type "function"))(h:JS (IV prog w) (A.under (.builtin "type.__call__" #[.ref C::vs,kw])) (.call (.ref f) #[.ref (s.heap.objs.size+1)::vs,kw]) (PySem.W.InitBack (s.heap.objs.size+1) R)
 {s with heap:=(s.heap.push BM).push (Ce C s.heap.objs.size)}):
 JS (IV prog w) A (.call (.ref C) #[vs,kw]) R s:=by
 let(b,g,d,t,os):=s;exact PySem.W.make_core (PySem.W.makes_of X hm) (PySem.W.looks_findIn X hi) (λself=>PySem.W.bind_fn X self a) (.inl rfl) h
def putF(f:fS)(v:V):eZ (fS×V)->eZ (fS×V)
 |[]=>[(f,v)]
 | (g,x)::r=>if g=f then(g,v)::r else(g,x)::putF f v r
theorem fy(f g:fS)(v:V):∀fs:eZ (fS×V),(putF f v fs).lookup g=if g=f then eV v else fs.lookup g
 |[]=>by
  show D6 g [(f,v)]=_;by_cases h:g=f;let a:(g==f)=eX:=beq_iff_eq.mpr h;simp only[D6,a,fE h];let a:(g==f)=eY:=beq_eq_false_iff_ne.mpr h;simp only[D6,a,fD h]
 | (k,x)::r=>by
  let c:=fy f g v r;rw[show putF f v ((k,x)::r)=(if k=f then(k,v)::r else(k,x)::putF f v r) from rfl];by_cases b:k=f;rw[fE b];by_cases h:g=k;let a:(g==k)=eX:=beq_iff_eq.mpr h;simp only[D6,a,fE (h.trans b)];let a:(g==k)=eY:=beq_eq_false_iff_ne.mpr h;simp only[D6,a,fD (λe:g=f=>h (e.trans b.symm))]
  rw[fD b];by_cases h:g=k;let a:(g==k)=eX:=beq_iff_eq.mpr h;simp only[D6,a,fD (λe:g=f=>b (h.symm.trans e))];let a:(g==k)=eY:=beq_eq_false_iff_ne.mpr h;simp only[D6,a];exact c
theorem u2(f:fS)(v:V):∀fs:eZ (fS×V),f∈(putF f v fs).map (·.1)/\∀g,g∈fs.map (·.1)->g∈(putF f v fs).map (·.1)
 |[]=>#[by simp[putF],λg h=>by simp at h]
 | (k,x)::r=>by
  let(i1,i2):=u2 f v r;rw[show putF f v ((k,x)::r)=(if k=f then(k,v)::r else(k,x)::putF f v r) from rfl];by_cases a:k=f;rw[fE a];subst a;exact#[by simp,λg h=>by simpa using h]
  rw[fD a];refine#[?_,λg h=>?_];rw[A5];exact Ag _ i1
  rw[A5] at h |-;rcases Ak.mp h with e|e;exact Ak.mpr (.inl e);exact Ag _ (i2 g e)
theorem i9(f:fS)(v:V):∀fs:eZ (fS×V),(putF f v fs).length<=fs.length+1
 |[]=>by simp[putF]
 | (k,x)::r=>by
  let b:=i9 f v r;rw[show putF f v ((k,x)::r)=(if k=f then(k,v)::r else(k,x)::putF f v r) from rfl];by_cases a:k=f;rw[fE a,Au,Au];lia;rw[fD a,Au,Au];lia
theorem RelO.some_of(r:RelO (eV v) o):∃u,o=eV u/\RelV v u:=by
 cases o with|none=>exact(show False from r).elim|some u=>exact#[u,fR,r]
theorem RelO.none_of(r:RelO eW o):o=eW:=by
 cases o with|none=>rfl|some u=>exact(show False from r).elim
theorem a87(r:RelV v u):HG u=eX:=by
 cases v with|non=>cases(show u=Value.none from r);rfl|bl b=>cases(show u=Value.bool b from r);rfl|int i=>let(t,e):=(show ∃t,u=Value.int i t from r);cases e;rfl|str x=>let(t,e):=(show ∃t,u=Value.str x t from r);cases e;rfl|byt b=>let(t,e):=(show ∃t,u=Value.bytes b t from r);cases e;rfl|flt b=>let(t,e):=(show ∃t,u=Value.float b t from r);cases e;rfl|ref a=>cases(show u=Value.ref a from r);rfl|ty n=>cases(show u=Value.type n from r);rfl
theorem xv(hok:HOk P w H h)(e:H a=eV (.ins C c fs)):∃b,ObjM h a c C b/\(∀f,RelO (fs.lookup f) (b f))/\Ha b (fs.map (·.1))/\fs.length<=1000/\H c=eV (.own a):=by
 let(d,z,ne,ob,b,n,r,q):=(show ObjOk P w H h a (.ins C c fs) from hok a _ e)
 exact#[b,#[ob,n,ne],r,q,z,d]
structure Cls(K:Aa)(C:IS):Prop where
 pg:CG K C Ir=eX
 hd:Dc K C=eX
 po:DT K C=eX
 sa:AS K (.ref C) "__setattr__"=eV (eV (.builtin "object.__setattr__"))
theorem Cls.get{K:Aa}(c:Cls K C)(f:fS):CG K C f=eX:=c.pg
def NoAttr(K:Aa)(C:IS)(f:fS):Prop:=AS K (.ref C) f=eV eW
theorem NoAttr.taker{K:Aa}(n:NoAttr K C f):FC K C f=eV eW:=by
 unfold FC;rw[show AS K (.ref C) f=eV eW from n];rfl
structure Con(K:Aa)(C:IS)(f:fS)(v:V)(u:IT):Prop where
 at_:AS K (.ref C) f=eV (eV u)
 rel:RelV v u
 get:PySem.W.specialIn K u "__get__"=eV eW
 cp:PySem.W.copiedNames.contains f=eY
structure Meth(K:Aa)(C:IS)(m:fS)(f:IS):Prop where
 at_:AS K (.ref C) m=eV (eV (.ref f))
 fn:Fj K (.ref f)=eX
 kp:BU K (.ref f)=eX
theorem a4m(I:Inv X d σ H s)(e:H a=eV (.ins C k fs))(c:Cls X.K C)(n:NoAttr X.K C f)(l:fs.lookup f=eV v)(h:∀u s',Inv X d σ H s'->RelV v u->Q u s'):IU (IV X.prog X.w) A (getAttr (.ref a) f b) Q E s:=by
 let(i,O,r,_,_,_):=xv I.hok e;let(u,j,g):=RelO.some_of (v:=v) (o:=i f) (by rw[<- l];exact r f);exact ae1 I.kIn O (c.get f) c.hd n j (a87 g) (h u _ (I.tok _) g)
theorem wr(I:Inv X b σ H s)(e:H a=eV (.ins C f fs))(c:Cls X.K C)(k:Meth X.K C m g)(l:fs.lookup m=eW)(h:Q (.ref g,[.ref a]) s):IU (IV X.prog X.w) A (getMethod (.ref a) m pl) Q E s:=by
 let(d,O,r,_,_,_):=xv I.hok e;let hn:d m=eW:=RelO.none_of (by rw[<- l];exact r m);exact aat I.kIn O (c.get m) k.at_ k.fn hn h
theorem a4w(I:Inv X d σ H s)(e:H a=eV (.ins C j fs))(c:Cls X.K C)(n:NoAttr X.K C f)(hl:fs.length<1000)(p:RelV y u)(h:∀s',Inv X d σ (upd H a (.ins C j (putF f y fs))) s'->Q () s'):IU (IV X.prog X.w) A (setAttr (.ref a) f u) Q E s:=by
 let(l,O,r,m,_,k):=xv I.hok e;let hz:(fs.map (·.1)).length<=IR:=by rw[Ad,D3];lia
 refine acn I.kIn O c.sa c.po n.taker c.hd m hz λh' i B=>h _ ?_;let hd:∃o,h'.get? j=eV o:=let ⟨o,_,_,e',_⟩:=i.ns;#[o,e'];refine I.write (x:=a) (e:=j) (by rw[e];exact True.intro) (.inr k) (λb q v z=>(B.2 b v).trans z) hd ?_;refine#[by rw[fh O.ne];exact k,?_,O.ne,i.obj,_,i.ns,λg=>?_,λg t=>?_];let:=i9 f y fs;lia;show RelO ((putF f y fs).lookup g) (if g=f then eV u else l g);rw[fy];by_cases q:g=f;rw[fE q,fE q];exact p;rw[fD q,fD q];exact r g
 by_cases q:g=f;rw[q];exact(u2 f y fs).1;refine(u2 f y fs).2 g (m g λz=>t ?_);show(if g=f then eV u else l g)=eW;rw[fD q];exact z
theorem Inv.made(I:Inv X c σ H s):Inv X c σ (upd (upd H s.heap.objs.size (.own (s.heap.objs.size+1))) (s.heap.objs.size+1) (.ins C s.heap.objs.size []))
 {s with heap:=(s.heap.push BM).push (Ce C s.heap.objs.size)}:=by
 let d:(s.heap.push BM).get? s.heap.objs.size=eV BM:=Ay s.heap rfl;let g:((s.heap.push BM).push (Ce C s.heap.objs.size)).get? (s.heap.objs.size+1)=eV (Ce C s.heap.objs.size):=by
  let:=Ay (s.heap.push BM) (o:=Ce C s.heap.objs.size) rfl
  rwa [B1] at this
 let j:(s.heap.push BM).Ns s.heap.objs.size (λ_=>eW):=#[BM,[].toArray,_,d,fR,(λe h=>fF h (by simp)),λ_=>rfl]
 let i:=I.laid (a:=s.heap.objs.size) (o:=.own (s.heap.objs.size+1)) (h':=s.heap.push BM) (t':=s.toks) (λb u q=>Ai _ q) (An _) #[_,d];refine i.laid (a:=s.heap.objs.size+1) (o:=.ins C s.heap.objs.size []) (t':=s.toks) (λb u q=>Ai _ q) (Hf (B1 _ _)) ?_;let ne:s.heap.objs.size≠s.heap.objs.size+1:=AB (BB _);refine#[by rw[fh ne,ad],AF _,ne,g,λ_=>eW,(Heap.Ns1.of_empty j).at λo q=>Ai _ q,λ_=>True.intro,λy f=>fF rfl f]
theorem ae3(a:JJ e f env (eval e env)=eval e env)(h:IU (IV prog w) A (eval e env) (λo b=>IU (IV prog w) A (getAttr o f eX) Q E b) E s):IU (IV prog w) A (eval (.Attribute e f pos) env) Q E s :=
 Attribute_any_ h (by rw[arm_eval_Attribute,a])
def tFld(K:Aa)(ta:TE)(f:fS):TE:=fun σ H Q=>ta σ H λx H1=>∃a C dx fs v,x=.ref a/\H1 a=eV (.ins C dx fs)/\Cls K C/\NoAttr K C f/\fs.lookup f=eV v/\Q v H1
def sFld(K:Aa)(ta tv:TE)(f:fS):TS:=λD σ H=>tv σ H λy H1=>ta σ H1 λx H2=>∃a C dx fs,x=.ref a/\H2 a=eV (.ins C dx fs)/\Cls K C/\NoAttr K C f/\fs.length<1000/\
 D.nx σ (upd H2 a (.ins C dx (putF f y fs)))
theorem aey(m:PE X e i)(k:JJ e f X.env (eval e X.env)=eval e X.env):PE X (.Attribute e f pos) (tFld X.K i f):=by
 intro b s σ H Q I h;refine ae3 k (thn (m b s σ H _ I h) λu s1 t=>?_);let(x,p,o,g,a,C,z,fs,v,ex,r,c,n,l,q):=t;subst ex;obtain rfl:u=Value.ref a:=g;exact a4m o r c n l λw y d j=>#[v,p,d,j,q]
theorem afm(v:PE X o j)(hv:PE X value g)(p:JN value (eV (.Attribute o f d)) pos.line X.env=pure eY):PS X (.Assign [.Attribute o f d] value pos) (sFld X.K j g f):=by
 intro b s σ H D I h;refine plainObj_wpAny_Assign_Attribute (thn (hv b s σ H _ I h) λu s1 #[y,w,t,k,q]=>thn (v b s1 σ w _ t q) λr F #[x,E,e,i,a,C,G,fs,ex,z,c,n,l,A]=>?_) p;subst ex;obtain rfl:r=Value.ref a:=i;exact a4w e z c n l k λB m=>#[σ,_,m,A]
structure Room(k:fC)(A:JW):Prop where
 hd:A.handled=eW
 dp:A.depth+3*k+5<recursionLimit
 un:A.units+16*k+200<cLine
theorem Room.mono(r:Room k A)(h:j<=k):Room j A:=#[r.hd,by let:=r.dp;lia,by let:=r.un;lia]
theorem Room.deeper(r:Room (k+1) A)(env:Env):Room k (A.deeper env) :=
 #[r.hd,by let:=r.dp;show A.depth+1+3*k+5<_;lia,by let:=r.un;show A.units+3+16*k+200<_;lia]
theorem a4b{A:JW}:(A.under (.builtin "type.__call__" #[.ref C::us,kw])).depth=A.depth+1:=by
 first|rfl|simp[Hg,Code.weight,Code.isCreation,Code.isGuard,Code.isCaller,IJ,Hh,guardIds]
theorem a4h{A:JW}:(A.under (.builtin "type.__call__" #[.ref C::us,kw])).units=A.units+1:=by
 first|rfl|simp[Hg,Code.cUnits,IJ,Hh]
theorem Room.make(r:Room (k+1) A)(C:IS)(us:eZ IT)(kw:eZ (fS×IT)):Room k (A.under (.builtin "type.__call__" #[.ref C::us,kw])) :=
 #[r.hd,by let:=r.dp;rw[a4b];lia,by let:=r.un;rw[a4h];lia]
theorem Room.depth(r:Room k A):A.depth<recursionLimit:=by let:=r.dp;lia
theorem Room.units(r:Room k A):A.units+64<cLine:=by let:=r.un;lia
def tNil:TA:=λ_ H Q=>Q [] H
def ka(ta:TE)(tr:TA):TA:=fun σ H Q=>ta σ H λx H1=>tr σ H1 λxs H2=>Q (x::xs) H2
theorem t9:PA X [] tNil:=λ_ _ _ _ H Q I h=>Cg #[[],H,I,.nil,h]
theorem kl(i:PE X e f)(l:PA X es t)(c:autoParam (IW (e::es) X.env=(eY,eval e X.env)::IW es X.env) a4_):PA X (e::es) (ka f t):=by
 intro pos a s σ H Q I h;rw[c];show IU _ _ (spliced ((eY,eval e X.env)::JF pos (IW es X.env))) _ _ s;refine B8 (thn (i a s σ H _ I h) λu s1 m=>?_);let(x,j,g,r1,k):=m;exact thn (l pos a s1 σ j _ g k) λus o #[xs,d,b,r2,n]=>#[x::xs,d,b,.cons r1 r2,n]
def tTup(t:TA):TE:=fun σ H Q=>t σ H λxs H1=>xs.length<=IR/\∀p,H1 p=eW->Q (.ref p) (upd H1 p (.tup xs))
def tLst(t:TA):TE:=fun σ H Q=>t σ H λxs H1=>xs.length<=IR/\∀p,H1 p=eW->Q (.ref p) (upd H1 p (.lst xs))
theorem a64{x1}(h:PA X es t):PE X (.Tuple es x1 pos) (tTup t):=by
 intro a s σ H Q I g;refine wpAny_Tuple_spliced (thn (h pos a s σ H _ I g) λus s1 #[xs,d,c,r,z,q]=>#[by rw[<- r.length];exact z,?_]);let f:d s1.heap.objs.size=eW:=c.hok.fresh (An _);refine#[.ref s1.heap.objs.size,upd d s1.heap.objs.size (.tup xs),c.laid (t':=s1.toks) (λb u e=>Ai _ e) (An _) ?_,fR,q _ f];exact#[z,us,r,#[_,Ay _ rfl,fR,_,fR]]
theorem a1h(h:PA X es t):PE X (.List es pos) (tLst t):=by
 intro a s σ H Q I g;refine wpAny_List_spliced (thn (h pos a s σ H _ I g) λus s1 #[xs,d,c,r,z,q]=>#[by rw[<- r.length];exact z,?_]);let f:d s1.heap.objs.size=eW:=c.hok.fresh (An _);refine#[.ref s1.heap.objs.size,upd d s1.heap.objs.size (.lst xs),c.laid (t':=s1.toks) (λb u e=>Ai _ e) (An _) ?_,fR,q _ f];exact#[z,us,0,r,Ay _ rfl]
abbrev Sp:=eZ V->Hp->VK->XK->Prop
abbrev CXT:=eZ Env->Hp->IX->XK->IT->IX->Prop
structure Env0(P:JH)(w:JL)(K:Aa)(mg:fS->fA IT)(base:JG)(A:JW)(outer:eZ Env)(s:IX)(H:Hp):Prop where
 frames:A.frames=eV outer
 mod:Mod K mg base
 bs:∀b o,base.get? b=eV o->s.heap.get? b=eV o/\H b=eW
 bsz:base.objs.size<=s.heap.objs.size
 funs:s.heap.FunFrames base outer
 frf:∀b∈frs outer,H b=eW
 hok:HOk P w H s.heap
 bare:AllBare s.gens
def CE(outer:eZ Env)(P:JH)(w:JL)(H:Hp)(s:IX)(Q:VK)(u:IT)(s':IX):Prop :=
 ∃v H',s'.os=s.os/\AllBare s'.gens/\Un (frs outer) [] H H' s.heap s'.heap/\HOk P w H' s'.heap/\RelV v u/\Q v H'
def CR(CX:CXT)(outer:eZ Env)(P:JH)(w:JL)(H:Hp)(s:IX)(Q:VK)(E:XK)(r:Result)(s':IX):Prop :=
 match r with
 |.ok (.ret u)=>CE outer P w H s Q u s'
 |.ok _=>False
 |.error e=>CX outer H s E e s'
structure FnOk(P:JH)(w:JL)(K:Aa)(mg:fS->fA IT)(base:JG)(CX:CXT)(k:fC)(f:IS)(fd:JO)(ps:fJ)(sp:Sp):Prop where
 len:∀vs H Q E,sp vs H Q E->vs.length=ps.length
 run:∀(A:JW) (outer:eZ Env) (s:IX) (H:Hp) (args:Args) (us:eZ IT) (vs:eZ V) (Q:VK) (E:XK),Room k A->Env0 P w K mg base A outer s H->BindsTo s fd args (ps.zip us)->Vals vs us->sp vs H Q E->
  JS (IV P w) A (.call (.ref f) args) (CR CX outer P w H s Q E) s
theorem Env0.make{K:Aa}(e:Env0 P w K mg base A outer s H)(C:IS)(us:eZ IT)(kw:eZ (fS×IT)):
 Env0 P w K mg base (A.under (.builtin "type.__call__" #[.ref C::us,kw])) outer s H:=#[by first|exact e.frames|(simpa [Hg,Code.envs,Hh,pushEnvs] using e.frames),e.mod,e.bs,e.bsz,e.funs,e.frf,e.hok,e.bare]
theorem Inv.env0(I:Inv X a σ H s):Env0 X.prog X.w X.K X.mg X.base X.A X.stack s H :=
 #[I.ok.frames,I.ok.mod,I.bs,AA I.ok.bsz I.sz,I.stack,I.stkFree,I.hok,I.bare]
theorem Inv.after(I:Inv X a σ H s)(h:CE X.stack X.prog X.w H s Q u s'):EP X a σ Q u s':=by
 let(v,H',os,bare,un,hok,r,q):=h;let(e,g,d,t,c):=s';obtain rfl:c=s.os:=os;exact#[v,H',I.call (h':=e) (g':=g) (d':=d) (t':=t) (ch:=[]) un hok bare (λb z=>fF z (by simp)),r,q]
def zp(sp:Sp)(dvs:eZ V)(E:XK)(t:TA):TE:=fun σ H Q=>t σ H λvs H1=>sp (vs++dvs) H1 Q E
def a00(C:IS)(m:fS)(sp:Sp)(dvs:eZ V)(E:XK)(ta:TE)(t:TA):TE:=fun σ H Q=>ta σ H λx H1=>∃a dx fs,x=.ref a/\H1 a=eV (.ins C dx fs)/\fs.lookup m=eW/\
 t σ H1 λvs H2=>sp (x::(vs++dvs)) H2 Q E
def abf(C:IS)(sp:Sp)(dvs:eZ V)(E:XK)(t:TA):TE:=fun σ H Q=>t σ H λvs H1=>∀x dx,H1 x=eW->H1 dx=eW->dx≠x->
 sp (.ref x::(vs++dvs)) (upd (upd H1 dx (.own x)) x (.ins C dx [])) (λv H2=>v=.non/\Q (.ref x) H2) E
def Binds(K:Aa)(fd:JO)(ps:fJ)(ds:eZ IT):Prop :=
 ∀(s:IX) (us:eZ IT),K.In s.heap->(us++ds).length=ps.length->BindsTo s fd #[us,[]] (ps.zip (us++ds))
theorem Binds.all{K:Aa}(h:∀us:eZ IT,us.length=ps.length->bindArgs fd #[us,[]]=pure (ps.zip us)):Binds K fd ps []:=λs us _ hl=>by
 rw[A2] at hl |-;exact .of_eq (h us hl)
def la(CX:CXT)(X:Cx)(E:XK):Prop:=∀(pins:eZ (IS×Obj)) (σ:St) (H:Hp) (s:IX) (e:IT) (s':IX),Inv X pins σ H s->CX X.stack H s E e s'->X.xe e s'
theorem a0a(F:FnOk X.prog X.w X.K X.mg X.base CX k f fd ps sp)(j:Room k X.A)(g:Binds X.K fd ps d)(hd:Vals b d)(i:la CX X E)(I:Inv X a σ H s)(r:Vals vs us)(h:sp (vs++b) H Q E):IU (IV X.prog X.w) X.A (call (.ref f) us) (EP X a σ Q) X.xe s:=by
 let r2:Vals (vs++b) (us++d):=r.append hd;let hl:(us++d).length=ps.length:=by rw[<- r2.length];exact F.len _ _ _ _ h
 refine HW (Dg (F.run X.A X.stack s H #[us,[]] (us++d) (vs++b) Q E j I.env0 (g s us I.kIn hl) r2 h) λr s' c=>?_);cases r with
 |error e=>exact i a σ H s e s' I c
 |ok fl =>
  cases fl with|ret u=>exact I.after c|next=>exact BS c|brk=>exact BS c|cont=>exact BS c
theorem ae8(F:FnOk X.prog X.w X.K X.mg X.base CX k f fd ps sp)(j:Room k X.A)(l:Gl X x)(hm:X.mg x=eV (.ref f))(n:BU X.K (.ref f)=eX)(m:Binds X.K fd ps o)(hd:Vals b o)(i:la CX X E)(v:PA X (e::es) t)(d:autoParam ((x==("__debug__":fS))=eY) a1_)(u:autoParam (IW (e::es) X.env=(eY,eval e X.env)::IW es X.env) a4_)(c:autoParam ((JF pos (IW es X.env)).any (·.1)=eY) a4_):
 PE X (.Call (.Name x p) (e::es) [] pos) (zp sp b E t):=by
 intro a s σ H Q I h;refine DG (ug I l hm ?_ d);refine EL (h₀:=X.base) I.ok.mod.kin n (thn (v pos a s σ H _ I h) λus s1 #[vs,y,g,r,q]=>#[g.kIn,?_]) u c;exact a0a F j m hd i g r q
theorem ad0(M:PE X o B)(c:Cls X.K C)(hm:Meth X.K C m f)(F:FnOk X.prog X.w X.K X.mg X.base CX k f fd ps sp)(G:Room k X.A)(J:Binds X.K fd ps L)(hd:Vals i L)(D:la CX X E)(N:PA X (e::es) t)(g:autoParam (IW (e::es) X.env=(eY,eval e X.env)::IW es X.env) a4_)(j:autoParam ((JF pos (IW es X.env)).any (·.1)=eY) a4_)(y:autoParam (eval (.Call (.Attribute o m d) (e::es) [] pos) X.env=(do
 let p<-eval o X.env
 standAt d.atName
 let (f,first)<-holding [p] (getMethod p m pl)
 callWith pos f first (JF pos (IW (e::es) X.env)) (JY pos (JP [] X.env)))) a4_):
 PE X (.Call (.Attribute o m d) (e::es) [] pos) (a00 C m sp i E B t):=by
 intro b s σ H Q I h;refine FS (pl:=pl) (thn (M b s σ H _ I h) λu s1 #[x,O,v,z,a,U,fs,ex,P,l,q]=>?_) y;subst ex;obtain rfl:u=Value.ref a:=z;refine wr v P c hm l ?_;refine EL (first:=[.ref a]) (h₀:=X.base) I.ok.mod.kin hm.kp (thn (N pos b s1 σ O _ v q) λus T #[vs,S,n,r,R]=>#[n.kIn,?_]) g j;exact a0a (us:=.ref a::us) (vs:=.ref a::vs) F G J hd D n (.cons rfl r) R
theorem a9w(z:PE X o p)(c:Cls X.K C)(hm:Meth X.K C m f)(F:FnOk X.prog X.w X.K X.mg X.base CX k f fd ps sp)(t:Room k X.A)(v:Binds X.K fd ps y)(hd:Vals e y)(r:la CX X E)(j:autoParam (eval (.Call (.Attribute o m b) [] [] pos) X.env=(do
 let i<-eval o X.env
 standAt b.atName
 let (f,first)<-holding [i] (getMethod i m pl)
 callWith pos f first (JF pos (IW [] X.env)) (JY pos (JP [] X.env)))) a4_):
 PE X (.Call (.Attribute o m b) [] [] pos) (a00 C m sp e E p tNil):=by
 intro d s σ H Q I h;refine FS (pl:=pl) (thn (z d s σ H _ I h) λu s1 #[x,G,g,n,a,D,fs,ex,B,l,q]=>?_) j;subst ex;obtain rfl:u=Value.ref a:=n;refine wr g B c hm l ?_;exact PySem.W.callWith_K0 (first:=[.ref a]) g.kIn hm.kp (a0a (us:=[.ref a]) (vs:=[.ref a]) F t v hd r g (.cons rfl .nil) q)
structure Mk(K:Aa)(C f:IS):Prop where
 makes:Em K C=eX
 init:AS K (.ref C) "__init__"=eV (eV (.ref f))
 fn:Fj K (.ref f)=eX
 kp:BU K (.ref C)=eX
theorem aa5(M:Mk X.K C f)(F:FnOk X.prog X.w X.K X.mg X.base CX k f fd ps sp)(o:Room (k+1) X.A)(p:Binds X.K fd ps g)(hd:Vals c g)(n:la CX X E)(I:Inv X b σ H s)(r:Vals vs us)(h:∀x i,H x=eW->H i=eW->i≠x->sp (.ref x::(vs++c)) (upd (upd H i (.own x)) x (.ins C i [])) (λv m=>v=.non/\Q (.ref x) m) E):
 IU (IV X.prog X.w) X.A (call (.ref C) us) (EP X b σ Q) X.xe s:=by
 let j:=h (s.heap.objs.size+1) s.heap.objs.size (I.hok.fresh (DW _)) (I.hok.fresh (An _)) (AB (BB _));let d:=Inv.made (C:=C) I;let r2:Vals (V.ref (s.heap.objs.size+1)::(vs++c)) (Value.ref (s.heap.objs.size+1)::(us++g)):=.cons rfl (r.append hd);let hl:(Value.ref (s.heap.objs.size+1)::us++g).length=ps.length:=by
  let e:=r2.length;rw[F.len _ _ _ _ j] at e;exact e.symm
 refine HW (ab0 (f:=f) I.kIn M.makes M.init (beq_iff_eq.mp M.fn) (Dg (F.run _ X.stack _ _ #[Value.ref (s.heap.objs.size+1)::us,[]] (Value.ref (s.heap.objs.size+1)::(us++g)) _ _ E (o.make C us [])
  (d.env0.make C us []) (p _ (Value.ref (s.heap.objs.size+1)::us) d.kIn hl) r2 j) λr s' a=>?_))
 cases r with
 |error e=>exact n b σ _ _ e s' d a
 |ok fl =>
  cases fl with
  |ret u =>
   let(v,H',q,t,l,y):=d.after a;subst l;exact#[t,#[V.ref (s.heap.objs.size+1),H',q,fR,y]]
  |next=>exact BS a
  |brk=>exact BS a
  |cont=>exact BS a
theorem adf(M:Mk X.K C f)(F:FnOk X.prog X.w X.K X.mg X.base CX k f fd ps sp)(j:Room (k+1) X.A)(l:Gl X x)(hm:X.mg x=eV (.ref C))(m:Binds X.K fd ps n)(hd:Vals b n)(i:la CX X E)(u:PA X (e::es) t)(d:autoParam ((x==("__debug__":fS))=eY) a1_)(o:autoParam (IW (e::es) X.env=(eY,eval e X.env)::IW es X.env) a4_)(c:autoParam ((JF pos (IW es X.env)).any (·.1)=eY) a4_):
 PE X (.Call (.Name x p) (e::es) [] pos) (abf C sp b E t):=by
 intro a s σ H Q I h;refine DG (ug I l hm ?_ d);refine EL (h₀:=X.base) I.ok.mod.kin M.kp (thn (u pos a s σ H _ I h) λus s1 #[vs,v,g,r,q]=>#[g.kIn,?_]) o c;exact aa5 M F j m hd i g r q
structure FnScope(N P:fJ)(sc:Scope):Prop where
 kind:sc.kind=.function
 co:sc.isCoroutine=eY
 gen:sc.isGenerator=eY
 nd:N.Nodup
 pre:N.take P.length=P
 par:∀x∈P,sc.names.lookup x=eV .local\/sc.names.lookup x=eV .cell
 nofree:∀y∈sc.names,y.2≠.free
theorem yo{kindOf:fS->fA NameKind}:∀{binds:eZ (fS×IT)}{m:fS->fA IT},(∀v,(x,v)∉binds)->bindL kindOf binds m x=m x
 |[],_,_=>rfl
 | (n,v)::r,m,h=>by
  unfold bindL;rw[yo λw a=>h w (Ag _ a)];split
  . let:x≠n:=by rintro rfl;exact h v Af
    simp[this]
  rfl
theorem zb{kindOf:fS->fA NameKind}:∀{binds:eZ (fS×IT)}{m:fS->fA IT},(∀v,(x,v)∉binds)->bindC kindOf binds m x=m x
 |[],_,_=>rfl
 | (n,v)::r,m,h=>by
  unfold bindC;rw[zb λw a=>h w (Ag _ a)];split;rfl
  let:x≠n:=by rintro rfl;exact h v Af
  simp[this]
theorem yf{kindOf:fS->fA NameKind}:∀{P:fJ}{vs:eZ IT}{i:fC}{m:fS->fA IT},P.Nodup->P[i]?=eV x->vs[i]?=eV v->kindOf x=eV .local->
 bindL kindOf (P.zip vs) m x=eV v
 |[],_,_,_,_,h,_,_=>by simp at h
 |_::_,[],_,_,_,_,h,_=>by simp at h
 |p::P,w::vs,0,m,nd,h1,h2,hk=>by
  simp at h1 h2;subst h1;subst h2;show bindL kindOf ((p,w)::P.zip vs) m p=_;unfold bindL;rw[yo λv hv=>(AK.mp nd).1 (FD hv).1,fE hk];simp
 |p::P,w::vs,i+1,m,nd,h1,h2,hk=>by
  show bindL kindOf ((p,w)::P.zip vs) m x=_;unfold bindL;exact yf (i:=i) (AK.mp nd).2 (by simpa using h1) (by simpa using h2) hk
theorem yt{kindOf:fS->fA NameKind}:∀{P:fJ}{vs:eZ IT}{i:fC}{m:fS->fA IT},P.Nodup->P[i]?=eV x->vs[i]?=eV v->kindOf x≠eV .local->
 bindC kindOf (P.zip vs) m x=eV v
 |[],_,_,_,_,h,_,_=>by simp at h
 |_::_,[],_,_,_,_,h,_=>by simp at h
 |p::P,w::vs,0,m,nd,h1,h2,hk=>by
  simp at h1 h2;subst h1;subst h2;show bindC kindOf ((p,w)::P.zip vs) m p=_;unfold bindC;rw[zb λv hv=>(AK.mp nd).1 (FD hv).1,fD hk];simp
 |p::P,w::vs,i+1,m,nd,h1,h2,hk=>by
  show bindC kindOf ((p,w)::P.zip vs) m x=_;unfold bindC;exact yt (i:=i) (AK.mp nd).2 (by simpa using h1) (by simpa using h2) hk
def start(N:fJ)(vs:eZ V):St:=vs.map eV++List.replicate (N.length-vs.length) eW
def cxOf(CX:CXT)(P:JH)(w:JL)(K:Aa)(mg:fS->fA IT)(base:JG)(N:fJ)(qual:fS)(scope:Scope)(f:IS)(cd:IT)(A:JW)(outer:eZ Env)(s:IX)(H:Hp)(E:XK):Cx where
 prog:=P
 w:=w
 K:=K
 mg:=mg
 base:=base
 A:=A.deeper (envOfC qual scope s.heap.objs.size f cd)
 N:=N
 s₀:=s
 H₀:=H
 env:=envOfC qual scope s.heap.objs.size f cd
 outer:=outer
 stack:=envOfC qual scope s.heap.objs.size f cd::outer
 ex:=[]
 calm:=eX
 fn:=λ_=>eX
 pn:=[]
 xe:=λe s'=>IU (IV P w) (A.deeper (envOfC qual scope s.heap.objs.size f cd)) (leaving (envOfC qual scope s.heap.objs.size f cd) e) (λ_ s''=>CX outer H s E e s'') (λe' s''=>CX outer H s E e' s'') s'
theorem a1w{a:Scope}(h:a.names.lookup x=eV .cell):∃c,(cellsFrom n a.names []).lookup x=eV c:=by
 let q:=FH a.names n [] (.inl h);exact Bd.mp q
theorem a8k{K:Aa}(S:FnScope N ps scope)(hd:A.handled=eW)(g:Env0 P w K mg base A outer s H)(hl:vs.length=ps.length)(r:Vals vs us)(x:InCallC s s.heap.objs.size (bindL (envOfC d scope s.heap.objs.size f o).kindOf (ps.zip us) λ_=>eW) (cellsFrom (s.heap.objs.size+1) scope.names []) (bindC (envOfC d scope s.heap.objs.size f o).kindOf (ps.zip us) λ_=>eW) s1):
 Inv (cxOf CX P w K mg base N d scope f o A outer s H E) [] (start N vs) H s1:=by
 let C:ps.length<=N.length:=by let:=fX EJ S.pre;rw[AG] at this;lia
 let(h1,tk,rfl,B):=x.done;let l:∀b:IS,b∉(cxOf CX P w K mg base N d scope f o A outer s H E).ex:=λb z=>fF (show b∈([]:eZ IS) from z) (by simp);exists #[g.mod,S.kind,fR,fR,An _,λy z c h1 h2=>?_,λy j=>?_,λy c _ h=>?_,λ_=>hd,Around.frames_deeper g.frames,.inr #[fR,fR],λb z=>fF z (l b),g.bs,g.bsz,λb _ _=>l b,λb z=>fF z (l b),g.funs,g.frf],
  rfl,g.bare,Un.kept B,#[_,x.toInCall.ns,λi y v h1 h2 h3=>?_],λy c h=>#[_,x.cell y c h],g.hok.fresh (An _),λy c h=>?_,λp hp=>fF (show p∈([]:eZ (IS×Obj)) from hp) (by simp),g.hok.kept B
 . exact name_of_addr x.apart (BD h1) (BD h2)
 . let j:scope.names.lookup y=eV .cell\/scope.names.lookup y=eV .free:=j;rcases j with j|j;exact a1w j;exact fF rfl (S.nofree _ (BD j))
 . exact B7 (x.above y c (BD h))
 . let hi:i<vs.length:=by
    unfold start at h2;by_cases hi:i<vs.length;exact hi;rw[List.getElem?_append_right (by simpa using hi)] at h2;rw[List.getElem?_replicate] at h2;split at h2<;>cases h2
   let F:vs[i]?=eV v:=by
    unfold start at h2;rw[List.getElem?_append_left (by simpa using hi),Ap] at h2;cases e:vs[i]? with|none=>rw[e] at h2;cases h2|some a=>rw[e] at h2;cases h2;rfl
   let(u,t,D):=r.get F;let hp:ps[i]?=eV y:=by
    rw[<- S.pre,List.getElem?_take_of_lt (by lia)];exact h1
   let m:ps.Nodup:=by rw[<- S.pre];exact S.nd.sublist (Fb _ _)
   exists u,D;rcases S.par y (Ar hp) with k|k;exact .inl #[k,yf m hp t k];let(c,e):=a1w (n:=s.heap.objs.size+1) k;refine .inr #[.inl k,c,e,?_];let q:=x.cell y c e;rw[yt m hp t (by show scope.names.lookup y≠_;rw[k];decide)] at q;exact q
 . exact g.hok.fresh (B7 (x.above y c (BD h)))
 unfold start;show _=N.length;rw[Aj,Ad,List.length_replicate]
 lia
theorem ack{K:Aa}{kV:IT}(R:K.lookup f=eV #[Z,od,.func (Cq name a params body scope T kV B pm U c ct),G])(C:FT K c a=eX)(S:FnScope N ps scope)(len:∀vs H Q E,sp vs H Q E->vs.length=ps.length)(g:∀(A:JW) (outer:eZ Env) (s:IX) (H:Hp) (vs:eZ V) (Q:VK) (E:XK),Room k (A.deeper (envOfC a scope s.heap.objs.size f c))->sp vs H Q E->
 ∃t,PSs (cxOf CX P w K mg base N a scope f c A outer s H E) body t/\t {nx:=λ_ H'=>Q .non H',rt:=Q} (start N vs) H):
 FnOk P w K mg base CX (k+1) f (Cq name a params body scope T kV B pm U c ct) ps sp:=by
 refine#[len,λA outer s H args us vs Q E p l X r j=>?_];let hl:=len _ _ _ _ j;let F:K.In s.heap:=l.mod.kin.keeps λb o e=>(l.bs b o e).1;let z:s.heap.NoLimit:=l.mod.nolimit.keeps λb o e=>(l.bs b o e).1;let d:∀y∈ps.zip us,scope.names.lookup y.1=eV .local\/(scope.names.lookup y.1=eV .cell/\((cellsFrom (s.heap.objs.size+1) scope.names []).lookup y.1).isSome=eX):=λ⟨n,v⟩ L=>by
  rcases S.par n (FD L).1 with q|q;exact .inl q;exact .inr #[q,FH _ _ _ (.inl q)]
 refine codeAny_call_function p.depth (F _ _ R) rfl S.co S.gen rfl (PySem.W.codeRec_of F C) (X _ _ _ _ ?_);refine wpAny_newFunctionEnv_cells S.kind d λenv Y s1 x=>?_;subst Y;refine#[z.keeps x.toInCall.keep,codeAny_func ?_];let(t,M,O):=g A outer s H vs Q E (p.deeper _) j;let I:Inv (cxOf CX P w K mg base N a scope f c A outer s H E) [] (start N vs) H s1:=a8k S p.hd l hl r x;refine B2 (M [] s1 (start N vs) H _ I O) (λfl s' h=>?_) λe s' h=>h;let i:∀{m:St} {H':Hp} {v:V} {u:IT},Inv (cxOf CX P w K mg base N a scope f c A outer s H E) [] m H' s'->RelV v u->Q v H'->CE outer P w H s Q u s' :=
  λ{m H' v u} J D q=>#[v,H',J.os,J.bare,J.base,J.hok,D,q]
 cases fl with
 |ret u =>
  let(v,m,H',J,D,q):=h;exact i J D q
 |next =>
  let(m,H',J,q):=h;exact i (v:=V.non) (u:=Value.none) J rfl q
 |brk =>
  let(_,_,_,q):=h;exact BS q
 |cont =>
  let(_,_,_,q):=h;exact BS q
def tCB(r:eZ V->Hp->VK->Prop)(t:TA):TE:=fun σ H Q=>t σ H λvs H1=>r vs H1 Q
theorem a18{id:String}(i:kb X (.builtin id) r)(d:Gl X x)(hm:X.mg x=eW)(hv:bootBuiltins x=eV (.builtin id))(j:PA X (e::es) t)(hn:autoParam (x≠"__name__") a1_)(c:autoParam ((x==("__debug__":fS))=eY) a1_)(f:autoParam (IW (e::es) X.env=(eY,eval e X.env)::IW es X.env) a4_)(b:autoParam ((JF pos (IW es X.env)).any (·.1)=eY) a4_):PE X (.Call (.Name x p) (e::es) [] pos) (tCB r t):=by
 intro a s σ H Q I h;refine DG (rj I d hm hv ?_ hn c);exact PyProof.Rows.callWith_builtin1 (thn (j pos a s σ H _ I h) λus s1 #[vs,k,g,r1,l]=>i a s1 σ k vs us Q g r1 l) f b
theorem ya(i:kb X (.type T) r)(d:Gl X x)(hm:X.mg x=eW)(hv:bootBuiltins x=eV (.type T))(j:PA X (e::es) t)(hn:autoParam (x≠"__name__") a1_)(c:autoParam ((x==("__debug__":fS))=eY) a1_)(f:autoParam (IW (e::es) X.env=(eY,eval e X.env)::IW es X.env) a4_)(b:autoParam ((JF pos (IW es X.env)).any (·.1)=eY) a4_):PE X (.Call (.Name x p) (e::es) [] pos) (tCB r t):=by
 intro a s σ H Q I h;refine DG (rj I d hm hv ?_ hn c);exact BY (thn (j pos a s σ H _ I h) λus s1 #[vs,k,g,r1,l]=>i a s1 σ k vs us Q g r1 l) f b
end L2
namespace HT
open PySem PyProof.Rows
section
open PySem.SeqAt
open PySem.AutoSeq1 (wpAny_loadPart')
open PySem.MeetsSeq PySem.MeetsSeq2 PySem.MeetsSeq3
end
def sIx(n d:fC):fA fB->fC
 |none=>d
 |some v=>if v<0 then(v+(n:fB)).toNat else min v.toNat n
theorem sIx_none(n d:fC):sIx n d eW=d:=rfl
theorem sIx_nat(n d k:fC):sIx n d (eV (k:fB))=min k n:=by
 show(if(k:fB)<0 then((k:fB)+(n:fB)).toNat else min (k:fB).toNat n)=min k n;rw[fD (by lia),Bf]
theorem x6(n d:fC)(hd:d<=n)(o:fA fB):sIx n d o<=n:=by
 cases o with
 |none=>exact hd
 |some v =>
  show(if v<0 then(v+(n:fB)).toNat else min v.toNat n)<=n;by_cases hv:v<0;rw[fE hv];lia;rw[fD hv];exact HH _ _
theorem a2z(v:fB)(n d:fC):(if v<0 then max (v+(n:fB)) 0 else min v (n:fB))=((sIx n d (eV v):fC):fB):=by
 show(if v<0 then max (v+(n:fB)) 0 else min v (n:fB))=(((if v<0 then(v+(n:fB)).toNat else min v.toNat n):fC):fB)
 by_cases hv:v<0;simp only[fE hv];lia;simp only[fD hv];lia
theorem a46(lo hi:fA fB)(n:fC):DB lo hi 1 (n:fB)=(((sIx n 0 lo:fC):fB),((sIx n n hi:fC):fB)):=by
 let h1:¬ ((1:fB)<0):=by lia
 unfold DB;simp only[h1,if_false];refine Prod.ext ?_ ?_
 . cases lo with|none=>rfl|some v=>exact a2z v n 0
 cases hi with|none=>rfl|some v=>exact a2z v n n
theorem a4v(i j:fC):CC (i:fB) (j:fB) 1=j-i:=by
 unfold CC;let h1:(1:fB)>0:=by lia
 simp only[h1,if_true,Int.ediv_one];split<;>lia
theorem x8(p:IsPart v o)(h:Q o s):IU (IV prog w) A (Builtin.Slice.slicePartIndex v) Q E s:=by
 cases p with|none=>exact slicePart_none h|int i t=>exact slicePart_int h
theorem vf{lo:fA fB}{Q:fB×fB×fC->IX->Prop}(e:s.heap.IsSliceOf g b c .none)(pl:IsPart b lo)(d:IsPart c hi)(h:Q (((sIx n 0 lo:fC):fB),1,sIx n n hi-sIx n 0 lo) s):IU (IV prog w) A (ES (.ref g) (pure (n:fB))) Q E s:=by
 let(os,a,f,hds):=id e;unfold ES Builtin.Slice.sliceFields;refine Ac (Ac (Bs a hds (x:=b) rfl (Ac (Bs a hds (x:=c) rfl (Ac (Bs a hds (x:=.none) rfl (Al ?_)))))));refine Ac (slicePart_none ?_);show IU _ _ (if((1:fB)==0)=eX then _ else _) _ _ s;rw[fD (by decide)];refine Ac (x8 pl (Ac (x8 d (Ac (Al ?_)))));show IU _ _ (match DB lo hi 1 (n:fB) with|(lo,hi)=>pure (lo,(1:fB),CC lo hi 1)) _ _ s;rw[a46 lo hi n];show IU _ _ (pure (((sIx n 0 lo:fC):fB),(1:fB),CC ((sIx n 0 lo:fC):fB) ((sIx n n hi:fC):fB) 1)) _ _ s;rw[a4v];exact Al h
theorem aa4(xs:fY IT)(i k:fC):((Bb k).filterMap λ(m:fC)=>xs[((i:fB)+(m:fB)*1).toNat]?).toArray=((xs.toList.drop i).take k).toArray:=by
 let e:(λ(m:fC)=>xs[((i:fB)+(m:fB)*1).toNat]?)=λm=>xs[i+m]?:=by
  funext m
  let:((i:fB)+(m:fB)*1).toNat=i+m:=by lia
  rw[this]
 rw[e];let:=pick_run xs i k;rw[DH] at this;let a:((λx=>xs[x]?)∘λx=>i+x)=λm=>xs[i+m]?:=rfl;rw[a] at this;rw[this]
theorem getItem_tuple_cut{lo:fA fB}(b:IsTup s.heap t items)(g:s.heap.IsSliceOf i k l .none)(pl:IsPart k lo)(j:IsPart l hi)(n:¬ (sIx items.size 0 lo=0/\sIx items.size items.size hi=items.size))(h:Q (.ref s.heap.objs.size) {s with heap:=s.heap.push {cls:=.type "tuple",data:=.seq ((items.toList.drop (sIx items.size 0 lo)).take (sIx items.size items.size hi-sIx items.size 0 lo)).toArray}})(hsz:items.size<=IR):IU (IV prog w) A (getItem (.ref t) (.ref i)) Q E s:=by
 let a:sizeOk (.seq ((items.toList.drop (sIx items.size 0 lo)).take (sIx items.size items.size hi-sIx items.size 0 lo)).toArray):=by
  show((items.toList.drop (sIx items.size 0 lo)).take (sIx items.size items.size hi-sIx items.size 0 lo)).toArray.size<=IR;rw[A0,AG,By,AC];omega
 let o:sIx items.size items.size hi<=items.size:=x6 _ _ (An _) hi;let(os,f,e,hds):=id g;let c:s.TypeIs (.ref i) "slice" := #[os,f,e]
 unfold getItem
 try with_reducible refine BH ?_
 first|refine Ac (Al ?_)|skip
 refine Ac (wpAny_sequenceKey b.typeIs (by decide) ?_);refine Ac (Bt (name:=BI "__getitem__") b.typeIs Ej
  (Bn Ej b.typeIs entry_tuple_getitem ?_ (args_tuple_getitem _ _)))
 show IU _ _ (Builtin.Tuple.tupleItemsOf (.ref t)>>=_) _ _ s;refine Ac (tupleItemsOf_ b ?_);refine Ac (Eo c ?_);rw[fE (by decide)];refine Ac (vf g pl j ?_);let d:¬ ((((sIx items.size 0 lo:fC):fB)==0 && (1:fB)==1 && (sIx items.size items.size hi-sIx items.size 0 lo)==items.size)=eX):=by
  intro q;rw[Bv,Bv] at q;let p:((sIx items.size 0 lo:fC):fB)=0:=eq_of_beq q.1.1;let r:sIx items.size items.size hi-sIx items.size 0 lo=items.size:=eq_of_beq q.2;exact n #[by omega,by omega]
 show IU _ _ (if(((sIx items.size 0 lo:fC):fB)==0 && (1:fB)==1 && (sIx items.size items.size hi-sIx items.size 0 lo)==items.size)=eX then _ else _) _ _ s;rw[fD d,aa4]
 first
  |exact Ac (m:=CH _) (AX (Al #[_,fR,Al h]) a)
  |exact Ac (m:=CH _) (AX (Ac (Al (Al #[_,fR,Al h]))) a)
  |exact Ac (Ac (m:=CH _) (AX (Al (Al #[_,fR,Al h])) a))
  |exact Ac (Ac (m:=CH _) (AX (Al #[_,fR,Al h]) a))
end HT
namespace L2
open PyProof.Rows
abbrev TO:=St->Hp->(fA fB->Hp->Prop)->Prop
def PO(X:Cx)(e:fA Expr)(t:TO):Prop :=
 ∀(pins:eZ (IS×Obj)) (s:IX) (σ:St) (H:Hp) (Q:fA fB->Hp->Prop),Inv X pins σ H s->t σ H Q->
   IU (IV X.prog X.w) X.A (evalPart e X.env) (λu s'=>∃o H',Inv X pins σ H' s'/\IsPart u o/\Q o H') X.xe s
def a29:TO:=λ_ H Q=>Q eW H
inductive tPartS(x:V)(H1:Hp)(Q:fA fB->Hp->Prop):Prop
 |mk (i:fB)(h0:x=.int i)(h1:Q (eV i) H1):tPartS x H1 Q
def abv(t:TE):TO:=fun σ H Q=>t σ H λx H1=>tPartS x H1 Q
theorem wm:∀{us:eZ IT},Vals (ns.map V.int) us->IntsAre us ns:=by
 induction ns with
 |nil=>intro us r;rw[BF] at r;cases r;exact .nil
 |cons n ns ih =>
  intro us r;rw[A5] at r;cases r with
  |cons r1 r2 =>
   let(t,e):=r1;subst e;exact .cons n t (ih r2)
section
theorem a3s:PO X eW a29:=by
 intro a s σ H Q I h;rw[evalPart_none];exact Al #[eW,H,I,.none,h]
theorem a2a(h:PE X e b):PO X (eV e) (abv b):=by
 intro a s σ H Q I g;rw[evalPart_some];refine thn (h a s σ H _ I g) λu s1 j=>?_;let(x,d,c,r1,f):=j;let(i,rfl,q):=f;let(t,rfl):=r1;exact#[eV i,d,c,.int i t,q]
variable{lo hi:fA Expr} in
def SlR(X:Cx)(r:V->fA fB->fA fB->Hp->VK->Prop):Prop :=
 ∀(pins:eZ (IS×Obj)) (s:IX) (σ:St) (H:Hp) (x:V) (v vl vu:IT) (lo hi:fA fB) (sl:IS) (Q:VK),Inv X pins σ H s->RelV x v->s.heap.IsSliceOf sl vl vu .none->IsPart vl lo->IsPart vu hi->r x lo hi H Q->
   ∃T id,typeLookup (.type T) "__getitem__"=pure (eV (.builtin id))/\s.TypeIs v T/\IU (IV X.prog X.w) X.A (getItem v (.ref sl)) (EP X pins σ Q) X.xe s
def tSl(r:V->fA fB->fA fB->Hp->VK->Prop)(te:TE)(tl th:TO):TE:=fun σ H Q=>te σ H λx H1=>tl σ H1 λl H2=>th σ H2 λu H3=>r x l u H3 Q
theorem a1g{lo:fA Expr}(B:SlR X r)(M:PE X e t)(hl:PO X lo F)(C:PO X hi m):PE X (.Subscript e (.Slice lo hi eW n) pos) (tSl r t F m):=by
 intro a s σ H Q I h;refine Subscript_ (thn (M a s σ H _ I h) λv s1 g=>?_);let(x,N,L,r1,y):=g;refine wpAny_Slice (thn (hl a s1 σ N _ L y) λd G #[l,p,j,pl,P]=>thn (C a G σ p _ j P) λf c g=>?_);let(u,i,E,k,J):=g;rw[evalPart_none];refine Al ?_;let O:Inv X a σ i {c with heap:=c.heap.push {cls:=.type "slice",data:=.fields [d,f,.none].toArray}}:=E.kept (t':=c.toks) λb ob q=>Ai _ q;let(T,id,z,o,D):=B a {c with heap:=c.heap.push {cls:=.type "slice",data:=.fields [d,f,.none].toArray}} σ i x v d f l u c.heap.objs.size Q O r1 (Heap.IsSliceOf.new ..) pl k J;show IU (IV X.prog X.w) X.A (subscriptTail e (.Slice lo hi eW n) v (.ref c.heap.objs.size)) (EP X a σ Q) X.xe {c with heap:=c.heap.push {cls:=.type "slice",data:=.fields [d,f,.none].toArray}};exact tail_any (ops:=[.ref c.heap.objs.size,v]) o z D (by with_unfolding_all rfl)
def cutV(xs:eZ V)(lo hi:fA fB):eZ V:=(xs.drop (HT.sIx xs.length 0 lo)).take (HT.sIx xs.length xs.length hi-HT.sIx xs.length 0 lo)
theorem v7(xs:eZ V)(lo hi:fA fB):(cutV xs lo hi).length<=xs.length:=by
 unfold cutV;rw[AG,By]
 lia
inductive rSlTS(K:Aa)(x:V)(lo hi:fA fB)(H:Hp)(Q:VK):Prop
 |mk (a:IS)(xs:eZ V)(h0:x=.ref a)(h1:SqT K H a xs)(h2:¬ (HT.sIx xs.length 0 lo=0/\HT.sIx xs.length xs.length hi=xs.length))(h3:∀p,H p=eW->Q (.ref p) (upd H p (.tup (cutV xs lo hi)))):rSlTS K x lo hi H Q
variable{lo hi:fA Expr} in
def rSlT(K:Aa):V->fA fB->fA fB->Hp->VK->Prop:=λx lo hi H Q=>rSlTS K x lo hi H Q
theorem a5y:SlR X (rSlT X.K):=by
 intro d s σ H x v l n lo hi m Q I i g pl f h;let(a,xs,rfl,j,k,q):=h;cases i;let(its,r,e,hz):=I.tuple j;let c:its.toArray.size=xs.length:=by rw[A0];exact r.length.symm
 exists "tuple",_,PyProof.Rows.slot_tuple_getitem.lookup,e.typeIs;refine HT.getItem_tuple_cut e g pl f (by rw[c];exact k) ?_ (by rw[c];exact hz);rw[c];refine#[.ref s.heap.objs.size,_,I.laid (t':=s.toks) (o:=.tup (cutV xs lo hi)) (λb ob q=>Ai _ q) (An _) ?_,fR,q _ (I.hok.fresh (An _))];exact#[AA (v7 xs lo hi) hz,_,(r.drop (HT.sIx xs.length 0 lo)).take (HT.sIx xs.length xs.length hi-HT.sIx xs.length 0 lo),IsTup.new _ _]
end
def ixN(n:fC)(i:fB):fA fC:=if 0<=i then(if i<n then eV i.toNat else eW) else if -(n:fB)<=i then eV (i+n).toNat else eW
def atI{α:Type}(xs:eZ α)(i:fB):fA α:=(ixN xs.length i).bind λj=>xs[j]?
theorem a3v(h:ixN n i=eV j):seqIndex? i n=eV j/\j<n /\ -(n:fB)<=i/\i<n:=by
 unfold ixN at h;by_cases a:0<=i;rw[fE a] at h;by_cases h1:i<n;rw[fE h1] at h;let e:i.toNat=j:=Am h;exact#[by rw[HD a h1,e],by lia,by lia,h1];rw[fD h1] at h;cases h
 rw[fD a] at h;by_cases h1 : -(n:fB)<=i;rw[fE h1] at h;let e:(i+n).toNat=j:=Am h;exact#[by rw[Hi (by lia) h1,e],by lia,h1,by lia];rw[fD h1] at h;cases h
theorem xj(h:atI xs i=eV v):∃j,seqIndex? i xs.length=eV j/\xs[j]?=eV v/\j<xs.length /\ -(xs.length:fB)<=i/\i<xs.length:=by
 unfold atI at h;cases e:ixN xs.length i with
 |none=>rw[e] at h;cases h
 |some j =>
  rw[e] at h;let(h1,h2,h3,a):=a3v e;exact#[j,h1,h,h2,h3,a]
theorem jo{xs:eZ α}{j:fC}{v:α}(h:xs[j]?=eV v):atI xs (j:fB)=eV v:=by
 let a:j<xs.length:=(Ao.mp h).1;let e:ixN xs.length (j:fB)=eV j:=by
  unfold ixN;rw[fE (by lia),fE (by lia)];simp
 unfold atI;rw[e];exact h
def uv(b:Expr):Prop:=∀o i,subscripted b eY o i=operate [o,i] (getItem o i)
def IxR(X:Cx)(r:R2):Prop :=
 ∀(value slice:Expr) (pins:eZ (IS×Obj)) (s:IX) (σ:St) (H:Hp) (x y:V) (v u:IT) (Q:VK),Inv X pins σ H s->RelV x v->RelV y u->r x y H Q->
   subscripted slice eY v u=operate [v,u] (getItem v u)->IU (IV X.prog X.w) X.A (subscriptTail value slice v u) (EP X pins σ Q) X.xe s
def MtR(X:Cx)(id:String)(r:V->eZ V->Hp->VK->Prop):Prop :=
 ∀(pins:eZ (IS×Obj)) (s:IX) (σ:St) (H:Hp) (x:V) (xs:eZ V) (v:IT) (us:eZ IT) (Q:VK),Inv X pins σ H s->RelV x v->Vals xs us->r x xs H Q->
   IU (IV X.prog X.w) X.A (call (.builtin id) (v::us)) (EP X pins σ Q) X.xe s
section
theorem a58(n:IxR X r)(m:PE X a k)(e:PE X b g)(f:uv b):PE X (.Subscript a b pos) (tOp r k g):=by
 intro c s σ H Q I h;exact Subscript_ (binT m e I h λv u l x y j d i o q=>n a b c l σ j x y v u Q d i o q (f _ _))
inductive rIxLS(K:Aa)(x y:V)(H:Hp)(Q:VK):Prop
 |mk (p:IS)(xs:eZ V)(i:fB)(v:V)(h0:x=.ref p)(h1:y=.int i)(h2:SqL K H p xs)(h3:atI xs i=eV v)(h4:Q v H):rIxLS K x y H Q
def rIxL(K:Aa):R2:=λx y H Q=>rIxLS K x y H Q
inductive rIxTS(K:Aa)(x y:V)(H:Hp)(Q:VK):Prop
 |mk (p:IS)(xs:eZ V)(i:fB)(v:V)(h0:x=.ref p)(h1:y=.int i)(h2:SqT K H p xs)(h3:atI xs i=eV v)(h4:Q v H):rIxTS K x y H Q
def rIxT(K:Aa):R2:=λx y H Q=>rIxTS K x y H Q
inductive rIxSS(x y:V)(H:Hp)(Q:VK):Prop
 |mk (z:fS)(i:fB)(c:fC)(h0:x=.str z)(h1:y=.int i)(h2:z.length<=IR)(h3:atI z.cps.toList i=eV c)(h4:Q (.str #[[c].toArray]) H):rIxSS x y H Q
def rIxS:R2:=λx y H Q=>rIxSS x y H Q
theorem xw:IxR X (rIxL X.K):=by
 intro value d a s σ H x y v u Q I l n h g;let(p,xs,i,z,rfl,rfl,B,A,q):=h;cases l;let(t,rfl):=n;let(its,r,pl,hz):=I.list B;let(j,h1,h2,h3,o,m):=xj A;let(w,k,e):=r.get h2;let hl:=r.length;let hn:=r8;let b:EP X a σ Q w s:=#[z,H,I,e,q]
 by_cases f:0<=i
 . let c:i.toNat=j:=by
    rw[HD f m] at h1;exact Am h1
   exact item_listR pl.isList f (by lia) (by rw[c];simpa using k) b g
 let c:(i+(its.toArray.size:fB)).toNat=j:=by
  rw[Hi (by lia) o] at h1;rw[A0,<- hl];exact Am h1
 exact subscriptTail_builtinR (x:=w) pl.isList.typeIs Hr.lookup
  (wpAny_getItem_list_neg (Q:=λr s'=>r=w/\EP X a σ Q r s') pl.isList (by lia) (by rw[A0]<;>lia) (by lia) (by rw[c];simpa using k) #[fR,b]) g
theorem n9:IxR X (rIxT X.K):=by
 intro value c a s σ H x y v u Q I e f h g;let(p,xs,i,z,rfl,rfl,m,l,q):=h;cases e;let(t,rfl):=f;let(its,r,pl,hz):=I.tuple m;let(j,h1,h2,h3,o,n):=xj l;let(w,k,d):=r.get h2;let hl:=r.length;let hn:=r8;let b:EP X a σ Q w s:=#[z,H,I,d,q]
 exact subscriptTail_builtinR (x:=w) pl.typeIs slot_tuple_getitem.lookup
  (getItem_tuple (j:=j) (Q:=λr s'=>r=w/\EP X a σ Q r s') pl (by lia) (by lia) (by rw[A0,<- hl];exact h1) (by simpa using k) #[fR,b]) g
theorem wu:IxR X rIxS:=by
 intro value a b s σ H x y v u Q I d f h g;let(z,i,c,rfl,rfl,hz,n,q):=h;let(t,rfl):=d;let(t',rfl):=f;let(j,h1,h2,h3,k,e):=xj n;let hl:z.cps.toList.length=z.length:=by simp[Cp]
 rw[hl] at h1 k e;let hn:=r8;exact tail_any (Gi s z t) slot_str_getitem.lookup (getItem_str (c:=c) (by
  let l:decide (i < -(2 ^ 63:fB))=eY:=fT (by lia);let m:decide (i >= 2 ^ 63)=eY:=fT (by lia);rw[l,m,Iw]) (by rw[h1];simpa using h2) #[.str #[[c].toArray],H,I.tok _,#[_,fR],q]) g
theorem a4a(its:eZ IT)(n j:fC)(u:IT):DP (·.setIfInBounds j u) {cls:=.type "list",data:=.seq its.toArray n}={cls:=.type "list",data:=.seq (its.set j u).toArray n}:=by
 simp[DP]
theorem Inv.lst{X:Cx}{a:eZ (IS×Obj)}{σ:St}{H:Hp}{s:IX}{p:IS}{xs:eZ V}(I:Inv X a σ H s)(h:H p=eV (.lst xs)):
 ∃(its:eZ IT) (n:fC),Vals xs its/\s.heap.get? p=eV {cls:=.type "list",data:=.seq its.toArray n}/\xs.length<=IR:=by
 let(z,its,n,r,e):=I.hok p _ h;exact#[its,n,r,e,z]
theorem Inv.lstUpd{its:eZ IT}(I:Inv X a σ H s)(h:H p=eV (.lst xs))(i:s.heap.get? p=eV {cls:=.type "list",data:=.seq its.toArray n})(d:f {cls:=.type "list",data:=.seq its.toArray n}={cls:=.type "list",data:=.seq its'.toArray c})(r:Vals ys its')(hz:ys.length<=IR)(t:fC):
 Inv X a σ (upd H p (.lst ys)) {s with heap:=s.heap.update p f,toks:=t}:=by
 let e:(s.heap.update p f).get? p=eV {cls:=.type "list",data:=.seq its'.toArray c}:=by
  rw[BG f i (by rw[d]<;>rfl),d]
 refine I.write (x:=p) (e:=p) (by rw[h];trivial) (.inl rfl) (λb u g q=>(BZ _ _ (AE g)).trans q) #[_,e] ?_;exact#[hz,its',c,r,e]
inductive rSetLS(o i v:V)(H:Hp)(Q:Hp->Prop):Prop
 |mk (p:IS)(xs:eZ V)(k:fB)(j:fC)(h0:o=.ref p)(h1:i=.int k)(h2:H p=eV (.lst xs))(h3:ixN xs.length k=eV j)(h4:Q (upd H p (.lst (xs.set j v)))):rSetLS o i v H Q
def ago:V->V->V->Hp->(Hp->Prop)->Prop:=λo i v H Q=>rSetLS o i v H Q
theorem a0c:PSet X ago:=by
 intro a s σ H o i v x y u Q I m l w h;let(p,xs,k,j,rfl,rfl,hp,g,q):=h;cases m;let(t,rfl):=l;let(its,n,r,b,hz):=I.lst hp;let(h1,h2,h3,f):=a3v g;let hl:=r.length;let hn:=r8;let e:Inv X a σ (upd H p (.lst (xs.set j v))) {s with heap:=s.heap.update p (DP (·.setIfInBounds j u))} :=
  I.lstUpd hp b (a4a its n j u) (r.set w j) (by rw[List.length_set];exact hz) s.toks
 by_cases d:0<=k
 . let c:k.toNat=j:=by
    rw[HD d f] at h1;exact Am h1
   exact PySem.W.ki_setAt b d (by lia) (by rw[A0,<- hl];exact f) (by rw[c];exact#[_,e,q])
 let c:(k+(its.toArray.size:fB)).toNat=j:=by
  rw[Hi (by lia) h3] at h1;rw[A0,<- hl];exact Am h1
 exact PySem.W.ki_setBack b (by lia) (by rw[A0,<- hl];exact h3) (by lia) (by rw[c];exact#[_,e,q])
theorem a0y(lo hi:fA fB)(n:fC):(JV lo hi eW n).1=((HT.sIx n 0 lo:fC):fB)/\(JV lo hi eW n).2.1=((HT.sIx n n hi:fC):fB)/\(JV lo hi eW n).2.2=1:=by
 refine#[?_,?_,fR]
 . cases lo with
   |none=>simp[JV,HT.sIx]
   |some i =>
    simp only[JV,HT.sIx,HI,show(1:fB)>0 by decide,if_true];by_cases h:i<0;simp only[h,if_true]<;>lia;simp only[h,if_false]<;>lia
 cases hi with
 |none=>simp[JV,HT.sIx]
 |some i =>
  simp only[JV,HT.sIx,HI,show(1:fB)>0 by decide,if_true];by_cases h:i<0;simp only[h,if_true]<;>lia;simp only[h,if_false]<;>lia
theorem zm(its:eZ IT)(lo hi:fA fB):slicePick its.toArray lo hi eW=((its.drop (HT.sIx its.length 0 lo)).take (HT.sIx its.length its.length hi-HT.sIx its.length 0 lo)).toArray:=by
 let(h1,h2,h3):=a0y lo hi its.toArray.size;unfold slicePick;rw[h1,h2,h3];simp only[sliceRange_one,pick_run,A0]<;>rfl
variable{a:Expr} in
inductive rSlLS(K:Aa)(x:V)(lo hi:fA fB)(H:Hp)(Q:VK):Prop
 |mk (a:IS)(xs:eZ V)(h0:x=.ref a)(h1:SqL K H a xs)(h2:∀p,H p=eW->Q (.ref p) (upd H p (.lst (cutV xs lo hi)))):rSlLS K x lo hi H Q
def rSlL(K:Aa):V->fA fB->fA fB->Hp->VK->Prop:=λx lo hi H Q=>rSlLS K x lo hi H Q
theorem nu:SlR X (rSlL X.K):=by
 intro d s σ H x v k m lo hi l Q I i g pl f h;let(a,xs,rfl,j,q):=h;cases i;let(its,r,e,hz):=I.list j;let c:=r.length;exists "list",_,Hr.lookup,e.isList.typeIs;refine wpAny_getItem_list_slice e.isList g pl f .none (by simp) ?_ (by rw[A0]<;>lia);rw[zm,<- c];refine#[.ref s.heap.objs.size,_,I.laid (t':=s.toks) (o:=.lst (cutV xs lo hi)) (λb ob q=>Ai _ q) (An _) ?_,fR,q _ (I.hok.fresh (An _))];exact#[AA (v7 xs lo hi) hz,_,0,(r.drop (HT.sIx xs.length 0 lo)).take (HT.sIx xs.length xs.length hi-HT.sIx xs.length 0 lo),Ay _ rfl]
def o3:V->gQ
 |.non=>eX
 |.bl _=>eX
 |.int _=>eX
 |.str _=>eX
 |_=>eY
def eqV:V->V->gQ
 |.non,.non=>eX
 |.bl a,.bl b=>a==b
 |.bl a,.int b=>(if a then 1 else 0)==b
 |.int a,.bl b=>a==(if b then 1 else 0)
 |.int a,.int b=>a==b
 |.str a,.str b=>a==b
 |_,_=>eY
theorem aer(d:RelV y u)(c:RelV x v)(f:o3 y=eX)(e:o3 x=eX):IQ A s u v (eqV y x):=by
 cases y with
 |non =>
  cases d;cases x with|non=>cases c;exact HX _|bl b=>cases c;exact SeqAt.EqAt.none_bool b|int b=>let(t,rfl):=c;exact Gy b t|str b=>let(t,rfl):=c;exact Gz b t|_=>exact fF (show eY=eX from e) Aw
 |bl a =>
  cases d;cases x with|non=>cases c;exact SeqAt.EqAt.bool_none a|bl b=>cases c;exact SeqAt.EqAt.bool_bool a b|int b=>let(t,rfl):=c;exact SeqAt.EqAt.bool_int a b t|str b=>let(t,rfl):=c;exact SeqAt.EqAt.bool_str a b t|_=>exact fF (show eY=eX from e) Aw
 |int a =>
  let(t',rfl):=d;cases x with|non=>cases c;exact G7 a t'|bl b=>cases c;exact SeqAt.EqAt.int_bool a t' b|int b=>let(t,rfl):=c;exact SeqAt.EqAt.int_int a t' b t|str b=>let(t,rfl):=c;exact GY a t' b t|_=>exact fF (show eY=eX from e) Aw
 |str a =>
  let(t',rfl):=d;cases x with|non=>cases c;exact G8 a t'|bl b=>cases c;exact SeqAt.EqAt.str_bool a t' b|int b=>let(t,rfl):=c;exact GZ a t' b t|str b=>let(t,rfl):=c;exact SeqAt.EqAt.str_str a t' b t|_=>exact fF (show eY=eX from e) Aw
 |_=>exact fF (show eY=eX from f) Aw
def eqU(x:V)(u:IT):gQ:=match u with
 |.none=>eqV .non x
 |.bool b=>eqV (.bl b) x
 |.int i _=>eqV (.int i) x
 |.str z _=>eqV (.str z) x
 |_=>eY
theorem a8f(r:RelV y u)(f:o3 y=eX):eqU x u=eqV y x:=by
 cases y with|non=>cases r;rfl|bl b=>cases r;rfl|int i=>let(t,rfl):=r;rfl|str z=>let(t,rfl):=r;rfl|_=>exact fF (show eY=eX from f) Aw
theorem rd:∀{xs:eZ V}{us:eZ IT},Vals xs us->xs.all o3=eX->us.any (eqU x)=xs.any λy=>eqV y x
 |_,_,.nil,_=>rfl
 |y::xs,u::us,.cons r t,f=>by
  rw[Iy,Bv] at f;rw[Dw,Dw,a8f r f.1,rd t f.2]
theorem pi(b:RelV x v)(c:o3 x=eX):∀{xs:eZ V}{us:eZ IT},Vals xs us->xs.all o3=eX->∀u∈us,IQ A s u v (eqU x u)
 |_,_,.nil,_=>λu a=>by cases a
 |y::xs,u::us,.cons r t,f=>λd a=>by
  rw[Iy,Bv] at f;rcases Ak.mp a with rfl|a;rw[a8f r f.1];exact aer r b f.1 c;exact pi b c t f.2 d a
def inV(x:V)(xs:eZ V):gQ:=xs.any λy=>eqV y x
inductive rInS(K:Aa)(neg:gQ)(x y:V)(H:Hp)(Q:VK):Prop
 |mk (p:IS)(xs:eZ V)(h0:y=.ref p)(h1:(SqL K H p xs\/SqT K H p xs))(h2:o3 x=eX)(h3:xs.all o3=eX)(h4:Q (.bl (if neg then !inV x xs else inV x xs)) H):rInS K neg x y H Q
def rIn(K:Aa)(neg:gQ):R2:=λx y H Q=>rInS K neg x y H Q
theorem ud:OpR X (JD .In) (rIn X.K eY):=by
 intro c s σ H x y v u Q I d f h;let(p,xs,rfl,a,e,fs,q):=h;cases f;rcases a with a|a;let(its,r,pl,hz):=I.list a;refine HY (eqU x) pl.isList (λw b=>pi d e r fs w (by simpa using b)) #[.bl _,H,I,fR,?_];rw[show its.toArray.any (eqU x)=its.any (eqU x) by simp,rd r fs];exact q;let(its,r,pl,hz):=I.tuple a;refine SeqAt.in_tupleAt (eqU x) pl (λw b=>pi d e r fs w (by simpa using b)) #[.bl _,H,I,fR,?_];rw[show its.toArray.any (eqU x)=its.any (eqU x) by simp,rd r fs];exact q
theorem a02:OpR X (JD .NotIn) (rIn X.K eX):=by
 intro c s σ H x y v u Q I d f h;let(p,xs,rfl,a,e,fs,q):=h;cases f;rcases a with a|a;let(its,r,pl,hz):=I.list a;refine SeqAt.notIn_listAt (eqU x) pl.isList (λw b=>pi d e r fs w (by simpa using b)) #[.bl _,H,I,fR,?_];rw[show its.toArray.any (eqU x)=its.any (eqU x) by simp,rd r fs];exact q;let(its,r,pl,hz):=I.tuple a;refine SeqAt.notIn_tupleAt (eqU x) pl (λw b=>pi d e r fs w (by simpa using b)) #[.bl _,H,I,fR,?_];rw[show its.toArray.any (eqU x)=its.any (eqU x) by simp,rd r fs];exact q
theorem i6:kb X (.builtin "len") (λxs H Q=>∃p ys,xs=[.ref p]/\(SqL X.K H p ys\/SqT X.K H p ys)/\Q (.int ys.length) H):=by
 intro c s σ H xs us Q I r h;let(p,ys,rfl,b,q):=h;let(u,rfl,d):=ux r;cases d;let hn:=r8;rcases b with b|b;let(its,r',pl,hz):=I.list b;let a:=r'.length;exact Calls.call_len_list pl.isList (by simp only[A0]<;>lia) #[.int ys.length,H,I.tok _,#[s.toks+1,by rw[A0,a]],q];let(its,r',pl,hz):=I.tuple b;let a:=r'.length;exact len_tuple pl (by simp only[A0]<;>lia) #[.int ys.length,H,I.tok _,#[s.toks+1,by rw[A0,a]],q]
theorem km:kb X (.type "list") (λxs H Q=>∃p ys,xs=[.ref p]/\(SqL X.K H p ys\/SqT X.K H p ys)/\∀l,H l=eW->Q (.ref l) (upd H l (.lst ys))):=by
 intro c s σ H xs us Q I r h;let(p,ys,rfl,g,q):=h;let(u,rfl,m):=ux r;cases m;let d:∀(its:eZ IT),Vals ys its->ys.length<=IR->∀(h':JG) (a:fC),(∀b k,s.heap.get? b=eV k->h'.get? b=eV k)->
  h'.get? s.heap.objs.size=eV {cls:=.type "list",dict:=eW,data:=.seq its.toArray a,slots := [].toArray}->EP X c σ Q (.ref s.heap.objs.size) {s with heap:=h'}:=λits r' hz h' a kp e =>
  #[.ref s.heap.objs.size,_,I.laid (t':=s.toks) kp (An _) (show ObjOk X.prog X.w _ h' _ (.lst ys) from#[hz,its,a,r',e]),fR,q _ (I.hok.fresh (An _))]
 rcases g with g|g;let(its,r',pl,hz):=I.list g;let f:=r'.length;let(o,i,j,n,hd):=pl.isList;exact call_list_seq p (.inl rfl) i j hd (λh' a kp e=>d its r' hz h' a kp e) (by simp only[A0]<;>lia);let(its,r',pl,hz):=I.tuple g;let f:=r'.length;let(o,i,j,n,hd):=pl;exact call_list_seq p (.inr rfl) i j hd (λh' a kp e=>d its r' hz h' a kp e) (by simp only[A0]<;>lia)
theorem zg:kb X (.type "tuple") (λxs H Q=>∃p ys,xs=[.ref p]/\((SqL X.K H p ys/\∀l,H l=eW->Q (.ref l) (upd H l (.tup ys)))\/(SqT X.K H p ys/\Q (.ref p) H))):=by
 intro a s σ H xs us Q I r h;let(p,ys,rfl,h):=h;let(u,rfl,i):=ux r;cases i;rcases h with⟨c,q⟩|⟨c,q⟩
 . let(its,r',pl,hz):=I.list c;let d:=r'.length;refine call_tuple_list pl.isList (λh' kp=>?_) (by simp only[A0]<;>lia);let f:Inv X a σ H {s with heap:=h'}:=I.kept (t':=s.toks) kp;let g:Inv X a σ (upd H h'.objs.size (.tup ys)) {s with heap:=h'.push {cls:=.type "tuple",data:=.seq its.toArray}} :=
    f.laid (t':=s.toks) (λb o e=>Ai _ e) (An _) (show ObjOk X.prog X.w _ _ _ (.tup ys) from#[hz,its,r',IsTup.new _ _])
   exact#[.ref h'.objs.size,_,g,fR,q _ (f.hok.fresh (An _))]
 let(its,r',pl,hz):=I.tuple c;exact call_tuple_same pl #[.ref p,H,I,fR,q]
def tyV(K:Aa)(T:String)(x:V)(H:Hp):Prop:=match x with
 |.str _=>T="str"
 |.int _=>T="int"
 |.ref p=>(T="list" /\ ∃xs,SqL K H p xs)\/(T="tuple" /\ ∃o,K.lookup p=eV o/\o.cls=.type "tuple" /\ o.dict=eW)\/
  (T="dict" /\ ((∃kvs,H p=eV (.dK kvs))\/∃kvs,H p=eV (.dT kvs)))\/(T="set" /\ ∃S n,H p=eV (.set S n))
 |_=>False
theorem a6l(I:Inv X f σ H s)(r:RelV x v)(ty:tyV X.K T x H):
 s.TypeIs v T/\∀a,v=.ref a->∃ob,s.heap.get? a=eV ob/\ob.dict=eW:=by
 cases x with
 |str z =>
  let(t,rfl):=r;cases(show T="str" from ty);exact#[Gi s z t,λ_ e=>nomatch e]
 |int i =>
  let(t,rfl):=r;cases(show T="int" from ty);exact#[typeIs_int s i t,λ_ e=>nomatch e]
 |ref p =>
  cases r;rcases ty with⟨rfl,xs,h⟩|⟨rfl,o,b,g,hd⟩|⟨rfl,b⟩|⟨rfl,S,n,b⟩
  . let(its,_,pl,_):=I.list h;refine#[pl.isList.typeIs,λa e=>?_];cases e;let(o,n,e,c,hd,_):=pl;exact#[o,e,hd]
  . refine#[#[o,I.kIn p o b,g],λa e=>?_];cases e;exact#[o,I.kIn _ o b,hd]
  . let z:∃o,s.heap.get? p=eV o/\o.ExactDict:=by
     rcases b with⟨kvs,b⟩|⟨kvs,b⟩
     . let(_,_,_,_,o,_,_,e,ex,_):=I.hok p _ b;exact#[o,e,ex]
     let(_,_,_,_,o,_,_,e,ex,_):=I.hok p _ b;exact#[o,e,ex]
    let(o,e,ex):=z;refine#[#[o,e,ex.1],λa d=>?_];cases d;exact#[o,e,ex.2.1]
  let(o,_,_,_,e,ex,_):=I.hok p _ b;refine#[#[o,e,ex.1],λa d=>?_];cases d;exact#[o,e,ex.2.1]
 |_=>exact BS ty
def tBM0(K:Aa)(T:String)(r:V->eZ V->Hp->VK->Prop)(to:TE):TE:=fun σ H Q=>to σ H λx H1=>tyV K T x H1/\r x [] H1 Q
def tBM(K:Aa)(T:String)(r:V->eZ V->Hp->VK->Prop)(to:TE)(t:TA):TE:=fun σ H Q=>to σ H λx H1=>tyV K T x H1/\t σ H1 λxs H2=>r x xs H2 Q
theorem af0{id:String}(i:PlainAttrs T)(slot:Slot T name id)(f:typeOf (.builtin id)=pure (.type "method_descriptor"))(hm:MtR X id r)(j:PE X o to)(b:autoParam (JJ o name X.env (eval o X.env)=eval o X.env) a4_)(c:autoParam ((e.endLine==d.line)=eX) a4_):PE X (.Call (.Attribute o name e) [] [] d) (tBM0 X.K T r to):=by
 intro a s σ H Q I h;refine wpAny_Call_method0_late b c (thn (j a s σ H _ I h) λv s1 m=>?_);let(x,k,g,r1,ty,l):=m;let(h1,h2):=a6l g r1 ty;exact#[T,id,i,slot,f,h1,h2,BJ rfl (PySem.evalArgs_none (hm a s1 σ k x [] v [] Q g r1 .nil l))]
theorem abq{id:String}(p:PlainAttrs T)(slot:Slot T name id)(k:typeOf (.builtin id)=pure (.type "method_descriptor"))(hm:MtR X id r)(q:PE X o to)(A:PA X (e::es) t)(f:autoParam (JJ o name X.env (eval o X.env)=eval o X.env) a4_)(j:autoParam (((JF b (IW (e::es) X.env)).all (λx => !x.1) && (JY b (JP [] X.env)).all (λx=>x.1.isSome)
 && decide ((e::es).length+([]:eZ Keyword).length+(if([]:eZ Keyword).isEmpty then 0 else 1)<30))=eX) a4_)(g:autoParam ((i.endLine==b.line)=eX) a4_)(y:autoParam (IW (e::es) X.env=(eY,eval e X.env)::IW es X.env) a4_)(d:autoParam ((JF b (IW es X.env)).any (·.1)=eY) a4_):
 PE X (.Call (.Attribute o name i) (e::es) [] b) (tBM X.K T r to t):=by
 intro c s σ H Q I h;refine wpAny_Call_method_late f j g rfl (thn (q c s σ H _ I h) λv s1 C=>?_);let(x,B,l,r1,ty,w):=C;let(h1,h2):=a6l l r1 ty;exists T,id,p,slot,k,h1,h2;let hA:=A b c s1 σ B _ l w;rw[y] at hA |-;refine BJ (by show(eY || (JF b (IW es X.env)).any (·.1))=eY;rw[d]<;>rfl) (BV ?_);exact thn hA λus z #[vs,u,n,r2,D]=>hm c z σ u x vs v us Q n r1 r2 D
/- xs.append(e),list.index on a module's tuple .. are MtR facts of 06m -/
end
def MtM(X:Cx)(id:String)(r:V->eZ V->Hp->VK->Prop):Prop :=
 ∀(pins:eZ (IS×Obj)) (s:IX) (σ:St) (H:Hp) (x:V) (xs:eZ V) (v:IT) (us:eZ IT) (Q:VK),Inv X pins σ H s->RelV x v->Vals xs us->r x xs H Q->
   IU (IV X.prog X.w) X.A (call (.builtin id) (v::us)) (EP X pins σ Q) X.xe s
theorem Vals.one:∀{x:V}{us:eZ IT},Vals [x] us->∃u,us=[u]/\RelV x u
 |_,_,.cons r .nil=>#[_,fR,r]
theorem Vals.zero:∀{us:eZ IT},Vals [] us->us=[]
 |_,.nil=>rfl
theorem Vals.dropLast(h:Vals xs us):Vals xs.dropLast us.dropLast:=by
 induction h with
 |nil=>exact .nil
 |cons r t ih =>
  cases t with|nil=>exact .nil|cons q t'=>exact .cons r ih
theorem Vals.eraseIdx:∀{xs:eZ V}{us:eZ IT}(i:fC),Vals xs us->Vals (xs.eraseIdx i) (us.eraseIdx i)
 |_,_,_,.nil=>.nil
 |_,_,0,.cons _ t=>t
 |_,_,i+1,.cons r t=>.cons r (Vals.eraseIdx i t)
theorem a4y(l:eZ α):l.eraseIdx (l.length-1)=l.dropLast:=by
 induction l with
 |nil=>rfl
 |cons a r ih =>
  cases r with
  |nil=>rfl
  |cons b r =>
   let e:(a::b::r).length-1=((b::r).length-1)+1:=by
    let h1:(a::b::r).length=r.length+2:=rfl;let h2:(b::r).length=r.length+1:=rfl
    lia
   rw[e,List.eraseIdx_cons_succ,ih]
   all_goals rfl
theorem yx:∀(l:eZ α) (i:fC),(l.eraseIdx i).length<=l.length
 |[],_=>An _
 |_::_,0=>DW _
 |_::r,i+1=>Nat.succ_le_succ (yx r i)
theorem Inv.lset{its:eZ IT}(I:Inv X a σ H s)(c:H l=eV (.lst xs))(e:s.heap.get? l=eV {cls:=.type "list",data:=.seq its.toArray n})(d:f its.toArray=its'.toArray)(hv:Vals ys its')(hz:ys.length<=IR):
 Inv X a σ (upd H l (.lst ys)) {s with heap:=s.heap.update l (DP f),toks:=t'}:=by
 let q:=PySem.IsL.update e f;rw[d] at q;refine I.write (x:=l) (e:=l) (by rw[c];exact trivial) (.inl rfl) (λh u b g=>(BZ s.heap (DP f) (AE b)).trans g) #[_,q] ?_;exact#[hz,its',_,hv,q]
theorem Inv.lnew(I:Inv X a σ H s)(hv:Vals ys its)(hz:ys.length<=IR):
 Inv X a σ (upd H s.heap.objs.size (.lst ys)) {s with heap:=s.heap.push {cls:=.type "list",data:=.seq its.toArray},toks:=t'} :=
 I.laid (λ_ _ q=>Ai _ q) (An _) #[hz,its,0,hv,Ay _ rfl]
theorem Inv.fresh(I:Inv X a σ H s):H s.heap.objs.size=eW:=I.hok.fresh (An _)
theorem Inv.lstM(I:Inv X a σ H s)(b:H l=eV (.lst xs)):xs.length<=IR/\∃(its:eZ IT) (n:fC),Vals xs its/\xs.length=its.length/\s.heap.get? l=eV {cls:=.type "list",data:=.seq its.toArray n}:=by
 let(z,its,n,r,e):=I.hok l _ b;exact#[z,its,n,r,r.length,e]
theorem a90(h:n<=IR):DI n=eY:=by
 unfold DI;exact fT (by lia)
inductive rAppendS(x:V)(vs:eZ V)(H:Hp)(Q:VK):Prop
 |mk (l:IS)(xs:eZ V)(y:V)(h0:x=.ref l)(h1:vs=[y])(h2:H l=eV (.lst xs))(h3:xs.length<IR)(h4:Q .non (upd H l (.lst (xs++[y])))):rAppendS x vs H Q
def adp:V->eZ V->Hp->VK->Prop:=λx vs H Q=>rAppendS x vs H Q
theorem ji:MtM X "list.append" adp:=by
 intro a s σ H x vs v us Q I c d h;let(l,xs,y,rfl,rfl,b,hz,q):=h;cases c;let(u,rfl,f):=d.one;let(z,its,n,r,hl,e):=I.lstM b;refine Gj F.slot_list_append #[_,e,fR] F.entry_list_append (F.args_list_append_2 _ _) (PySem.list_append l its.toArray n u (by rw[A0];lia)) #[e,?_];refine#[.non,_,I.lset (its':=its++[u]) b e (by simp) (r.append (.cons f .nil)) ?_,fR,q];rw[Aj,Av]
 lia
inductive rExtendS(x:V)(vs:eZ V)(H:Hp)(Q:VK):Prop
 |mk (l b:IS)(xs zs:eZ V)(h0:x=.ref l)(h1:vs=[.ref b])(h2:H l=eV (.lst xs))(h3:H b=eV (.lst zs))(h4:xs.length+zs.length<=IR)(h5:Q .non (upd H l (.lst (xs++zs)))):rExtendS x vs H Q
def aec:V->eZ V->Hp->VK->Prop:=λx vs H Q=>rExtendS x vs H Q
theorem qo:MtM X "list.extend" aec:=by
 intro d s σ H x vs v us Q I g o h;let(l,b,xs,zs,rfl,rfl,f,i,hz,q):=h;cases g;let(u,rfl,j):=o.one;cases j;let(z,its,n,r,hl,e):=I.lstM f;let(p,a,n2,r2,k,m):=I.lstM i;let hsz:its.toArray.size+a.toArray.size<=IR:=by rw[A0,A0];lia
 let c:¬ (!its.toArray.isEmpty && DI (its.toArray.size+a.toArray.size))=eX:=by
  rw[a90 hsz,Im];exact Aw
 refine Gj F.slot_list_extend #[_,e,fR] F.entry_list_extend (F.args_list_extend_2 _ _)
  (AutoSeq1.list_extend_list_list_0 l its.toArray n b a.toArray n2 c (by rw[A0];lia) (by lia)) #[e,m,?_]
 refine#[.non,_,I.lset (its':=its++a) f e (by simp) (r.append r2) ?_,fR,q];rw[Aj]
 lia
inductive rPopS(x:V)(vs:eZ V)(H:Hp)(Q:VK):Prop
 |mk (l:IS)(xs:eZ V)(y:V)(h0:x=.ref l)(h1:vs=[])(h2:H l=eV (.lst xs))(h3:xs[xs.length-1]?=eV y)(h4:Q y (upd H l (.lst xs.dropLast))):rPopS x vs H Q
def rPop:V->eZ V->Hp->VK->Prop:=λx vs H Q=>rPopS x vs H Q
theorem a7e:MtM X "list.pop" rPop:=by
 intro c s σ H x vs v us Q I g i h;let(l,xs,y,rfl,rfl,d,f,q):=h;cases g;let b:=i.zero;subst b;let(z,its,n,r,hl,e):=I.lstM d;let(u,k,j):=r.get f;let a:its.toArray[its.toArray.size-1]?=eV u:=by
  show its.toArray[its.length-1]?=eV u;rw[<- B3,<- hl];exact k
 refine Gj CN #[_,e,fR] HJ (F.args_list_pop_1 _) (MeetsSeq.list_pop_last l its.toArray n u a (by rw[A0];lia)) #[e,?_];refine#[y,_,I.lset (its':=its.dropLast) d e ?_ r.dropLast ?_,j,q];show its.toArray.eraseIdxIfInBounds (its.toArray.size-1)=its.dropLast.toArray;rw[A0,Ek,a4y]
 rw[List.length_dropLast]
 lia
inductive rPopAtS(x:V)(vs:eZ V)(H:Hp)(Q:VK):Prop
 |mk (l:IS)(xs:eZ V)(i:fB)(k:fC)(y:V)(h0:x=.ref l)(h1:vs=[.int i])(h2:H l=eV (.lst xs))(h3 : -(2 ^ 63)<=i)(h4:i<2 ^ 63)(h5:seqIndex? i xs.length=eV k)(h6:xs[k]?=eV y)(h7:Q y (upd H l (.lst (xs.eraseIdx k)))):rPopAtS x vs H Q
def af3:V->eZ V->Hp->VK->Prop:=λx vs H Q=>rPopAtS x vs H Q
theorem a94:MtM X "list.pop" af3:=by
 intro b s σ H x vs v us Q I f o h;let(l,xs,i,k,y,rfl,rfl,c,h1,h2,m,d,q):=h;cases f;let(u,rfl,g):=o.one;let(t,rfl):=g;let(z,its,n,r,hl,e):=I.lstM c;let(w,j,a):=r.get d;refine Gj CN #[_,e,fR] HJ (F.args_list_pop_2 _ _)
  (MeetsSeq.list_pop_at l its.toArray n i t k w (fitsIndex_both h1 h2) (by rw[A0,<- hl];exact m) (by rw[<- B3];exact j) (by rw[A0];lia)) #[e,?_]
 refine#[y,_,I.lset (its':=its.eraseIdx k) c e ?_ (r.eraseIdx k) ?_,a,q];show its.toArray.eraseIdxIfInBounds k=(its.eraseIdx k).toArray;rw[Ek]
 let:=yx xs k
 lia
inductive rCatS(x y:V)(H:Hp)(Q:VK):Prop
 |mk (l b:IS)(xs zs:eZ V)(h0:x=.ref l)(h1:y=.ref b)(h2:H l=eV (.lst xs))(h3:H b=eV (.lst zs))(h4:xs.length+zs.length<=IR)(h5:∀p,H p=eW->Q (.ref p) (upd H p (.lst (xs++zs)))):rCatS x y H Q
def rCat:R2:=λx y H Q=>rCatS x y H Q
theorem lc:OpR X (JQ .Add) rCat:=by
 intro c s σ H x y v u Q I d i h;let(l,b,xs,zs,rfl,rfl,j,f,hz,q):=h;cases d;cases i;let(z,its,n,r,hl,e):=I.lstM j;let(o,a,n2,r2,g,k):=I.lstM f;refine PySem.P.add_list e k ?_ (by rw[A0,A0];lia);let m:its.toArray++a.toArray=(its++a).toArray:=by simp
 rw[m];exact#[.ref _,_,I.lnew (t':=s.toks) (r.append r2) (by rw[Aj];lia),fR,q _ I.fresh]
end L2
namespace Att
open PySem PySem.W PySem.Calls PyProof.Rows
theorem wb:∀(ns:eZ fB) (vs:eZ IT),WellAll P h vs (ns.map WData.int)->IntsAre vs ns:=by
 intro ns;induction ns with
 |nil =>
  intro vs w;rw[BF] at w;cases w;exact .nil
 |cons n ns ih =>
  intro vs w;rw[A5] at w;cases w with
  |cons a b =>
   cases a;exact .cons _ _ (ih _ b)
theorem a8e{l:OpenLaw}(hn:l.most=eV n)(b:l.row.toRowW.claim.pre args=eX)(g:WellAll P h vals args):
 ∃a vs ns,vals=[Value.ref a]/\args=[WData.list (ns.map WData.int)]/\h.get? a=eV {cls:=.type "list",data:=.seq vs.toArray}/\IntsAre vs ns/\ns.length<=n:=by
 let i:WShape.hasAll [] args [.list .int]=eX:=(pre_splitW b).1;let j:l.pre.holds [] {args:=args}=eX:=(pre_splitW b).2;let(d,r,rfl,h1,h2):=hasAllW_cons i;obtain rfl:=hasAllW_nil h2;let(xs,rfl,h3):=hasW_list h1;let(ns,rfl):=items_int h3;let c:ns.length<=n:=by
  unfold OpenLaw.pre at j;let e:(WTm.not (.lt (.lit (.int (n:fB))) (.len (.arg 0)))).holds [] {args:=[.list (ns.map .int)]}=eX:=by
   let e:=(holds_andW j).1;rw[hn] at e;exact e
  let f:=condW_of e (w_not (w_lt w_lit (w_len_list (w_arg rfl))));rw[Ad] at f;refine Fk λq=>?_;let k:(n:fB)<((ns.length:fC):fB):=by omega
  first
   | (rw[fU k] at f;exact fF f (by decide))
   | (simp at f;omega)
 cases g with
 |cons w1 w2 =>
  cases w2;cases w1 with|list ho hall=>exact#[_,_,ns,fR,fR,ho,wb ns _ hall,c]
theorem a7w(l:OpenLaw)(args:eZ WData):l.row.toRowW.claim.post args (.bool eX) args=eX :=
 postW_of (r:=l.row.toRowW) (X:=(eX==eX))
  (show WShape.has [] (.bool eX) .bool=eX by first|rfl|decide|simp[WShape.has,WShape.arms,WShape.armsAll])
  (show(WTm.eq .res (.lit (.bool eX))).value [] {args:=args,res:=eV (.bool eX),after:=args}=eV (.bool (eX==eX)) from w_eq_bool (w_res rfl) w_lit) rfl
theorem attach_call{l:OpenLaw}(hn:l.most=eV n)(v:d.params.defaults=[])(call:∀(w:JL) (s₀ b:IX) (mg u:fS->fA IT) (h:IS) (o:Obj) (pm m g:IT) (a:IS) (vs:eZ IT) (ns:eZ fB),
 Ground q c [] z w s₀ mg u b.heap->E w b.heap->
 b.heap.get? h=eV o->o.data=.func (docDef d.name d.params d.body d.scope pm m g)->b.heap.CodeRec m d.name->mg d.name=eV (.ref h)->
 b.heap.get? a=eV {cls:=.type "list",data:=.seq vs.toArray}->IntsAre vs ns->ns.length<=n->b.gens = [].toArray->
 JS (IV l.prog w) callerA (.call (.ref h) #[[.ref a],[]]) (λr s'=>r=.ok (.ret (.bool eX))/\OldK b.heap s'.heap/\s'.os=b.os/\AllBare s'.gens) b):
 WalkO q c z E l.row.toRowW d [] (λf vs=>HZ f vs):=by
 intro w s₀ b mg u G Y h o pm m g C kV B hd s y t D args vals as k x F p A;obtain rfl:C=.none:=Dflts.none y v;obtain rfl:kV=.none:=Dflts.noKw y;let(a,vs,ns,rfl,rfl,j,e,i):=a8e hn k p;refine enter_call (Dg (call w s₀ b mg u h o pm m g a vs ns G Y B (fd_plain hd) s t j e i D) λr s' I=>?_);let(rfl,h2,h3,H):=I;exact#[.inl #[.bool eX,.bool eX,[],fR,λ_=>rfl,.bool eX,a7w l _,λ_=>#[List.Pairwise.nil,λ_ hm=>(nomatch hm)]],h2,h3,H]
end Att
namespace L2
open PyProof.Rows
theorem yh:∀{vs:eZ IT}{ns:eZ fB},IntsAre vs ns->Vals (ns.map V.int) vs
 |_,_,.nil=>.nil
 |_,_,.cons n t h=>.cons #[t,fR] (yh h)
def Only(H:Hp):Prop:=∀b,H b=eW\/∃o xs,H b=eV (.frz o (.lst xs))
theorem ab9{K:Aa}(R:K.In c.heap)(B:c.heap.Ns IY mg)(g:c.heap.Ns builtinsNs S)(J:∀x:fS,x≠"__name__" -> S x=bootBuiltins x)(t:c.heap.NoLimit)(hg:c.gens = [].toArray)(D:c.heap.get? a=eV {cls:=.type "list",data:=.seq vs.toArray})(hi:IntsAre vs ns)(hl:ns.length<=IR)(hr:Room k callerA)(F:∀base:JG,K.In base->base.Ns IY mg->FnOk P w K mg base CX k M fd [x] sp)(l:∀(s:IX) (u:IT),BindsTo s fd #[[u],[]] [(x,u)])(G:∀H:Hp,Only H->SqL K H a (ns.map V.int)->sp [.ref a] H (λv _=>v=.bl eX) λ_ _ _=>False)(L:∀H e s',CX [] H c (λ_ _ _=>False) e s'->False):
 JS (IV P w) callerA (.call (.ref M) #[[.ref a],[]]) (λr s'=>r=.ok (.ret (.bool eX))/\OldK c.heap s'.heap/\s'.os=c.os/\AllBare s'.gens) c:=by
 let N:=yh hi;let C:=hi.length;let j:∀H:Hp,Only H->SqL K H a (ns.map V.int)->HOk P w H c.heap->(∀b,H b≠eW->b=a)->(H a≠eW->K.lookup a=eW)->
  JS (IV P w) callerA (.call (.ref M) #[[.ref a],[]]) (λr s'=>r=.ok (.ret (.bool eX))/\OldK c.heap s'.heap/\s'.os=c.os/\AllBare s'.gens) c:=by
  intro H O U hok hA hK;let f:∀{b:IS} {o:Obj},c.heap.get? b=eV o->H b=eW->(hidT c.heap H).get? b=eV o:=λe n=>aag e n;let I:∀{b:IS} {o:Obj} {es:fY DictEntry} {ep:fC},c.heap.get? b=eV o->o.data=.dict es ep->H b=eW:=λ{b o es ep} e d=>by
   cases q:H b with
   |none=>rfl
   |some u =>
    let E:b=a:=hA b (by rw[q];simp);subst E;rw[D] at e;cases e;let d':Data.seq vs.toArray _=Data.dict es ep:=d;cases d'
  let i:∀{b:IS} {m:fS->fA IT},c.heap.Ns b m->(hidT c.heap H).Ns b m:=λ{b m} ⟨o,es,ep,e,d,r⟩=>#[o,es,ep,f e (I e d),d,r]
  let p:K.In (hidT c.heap H):=λb o e=>f (R b o e) (by
   cases q:H b with
   |none=>rfl
   |some u =>
    let E:b=a:=hA b (by rw[q];simp);subst E;rw[hK (by rw[q];simp)] at e;cases e)
  let Z:Mod K mg (hidT c.heap H):=#[p,i B,#[S,i g,J],let ⟨mc,h1,h2⟩:=t;#[mc,i h1,h2]]
  let Y:Env0 P w K mg (hidT c.heap H) callerA [] c H:=#[fR,Z,λb o e=>ae9 e,Hf (a8n _ _),trivial,λb g=>fF (show b∈([]:eZ IS) from g) (by simp),hok,.of_eq hg]
  refine Dg ((F _ p (i B)).run callerA [] c H #[[.ref a],[]] [.ref a] [.ref a] _ _ hr Y (l c (.ref a)) (.cons rfl .nil) (G H O U)) λr s' h=>?_;cases r with
  |error e=>exact(L H e s' h).elim
  |ok fl =>
   cases fl with
   |next=>exact BS h
   |brk=>exact BS h
   |cont=>exact BS h
   |ret u =>
    let(v,H',os,bare,un,A,r',q):=h;let T:v=.bl eX:=q;subst T;obtain rfl:u=Value.bool eX:=r';refine#[fR,OldK.of_keep λb o e=>?_,os,bare];cases q:H b with
    |none=>exact un.keep b o e q (by intro z;exact fF (show b∈([]:eZ IS) from z) (by simp)) (by simp)
    |some u =>
     rcases O b with z|⟨ob,xs,z⟩;rw[q] at z;cases z;let z2:=un.frzs b ob _ z;let(Q,_):=hok b _ z;let(X,_):=A b _ z2;rw[e] at Q;cases Q;exact X
 cases hk:K.lookup a with
 |some o =>
  let e:=R a o hk;rw[D] at e;cases e;refine j (λ_=>eW) (λ_=>.inl rfl) (.inr #[_,vs.toArray,_,hk,fR,fR,fR,by rw[A0,C];exact hl,by simpa using N]) (λb u z=>by let y:(eW:fA HO)=eV u:=z;cases y) (λb z=>fF rfl z) λz=>fF rfl z
 |none =>
  refine j (λb=>if b=a then eV (.frz {cls:=.type "list",data:=.seq vs.toArray} (.lst (ns.map V.int))) else eW) (λb=>?_) (.inl (.inr #[{cls:=.type "list",data:=.seq vs.toArray},fE rfl])) (λb u z=>?_) (λb z=>?_) λ_=>hk;by_cases g:b=a;exact .inr #[_,_,fE g];exact .inl (fD g);by_cases g:b=a;let y:=(fE g).symm.trans z;cases y;subst g;exact#[D,by rw[Ad];exact hl,vs,_,N,D];let y:=(fD g).symm.trans z;cases y
  by_cases g:b=a;exact g;exact fF (fD g) z
theorem walk_of{l:FE}{K:Params->Aa}{CX:JL->CXT}{sp:JL->Sp}(hn:l.most=eV n)(t:n<=IR)(A:d.params.defaults=[])(D:Room k callerA)(O:∀(w:JL) (h:JG),J w h->(K w.params).In h)(F:∀(w:JL) (mg:fS->fA IT) (m:IS) (h:JG),(K w.params).In h->h.Ns IY mg->mg d.name=eV (.ref m)->
 ∃fd:JO,(∀(s:IX) (u:IT),BindsTo s fd #[[u],[]] [(x,u)])/\
  ∀base:JG,(K w.params).In base->base.Ns IY mg->FnOk l.prog w (K w.params) mg base (CX w) k m fd [x] (sp w))(p:∀(w:JL) (H:Hp) (a:IS) (ns:eZ fB),ns.length<=n->Only H->SqL (K w.params) H a (ns.map V.int)->sp w [.ref a] H (λv _=>v=.bl eX) λ_ _ _=>False)(z:∀(w:JL) (H:Hp) (s:IX) (e:IT) (s':IX),CX w [] H s (λ_ _ _=>False) e s'->False):
 Iz q r Q J l.row.toRowW d [] (λf vs=>HZ f vs):=by
 refine Att.attach_call hn A λw s₀ N mg U m o pm S P a vs ns G Y R hd L y j i c E=>?_;let B:=O w _ Y;let(fd,I,hF):=F w mg m _ B G.T.g y;exact ab9 B G.T.g G.T.b G.T.builtins G.T.nolimit E j i (AA c t) D hF I (λH C M=>p w H a ns c C M) λH e s'=>z w H N e s'
end L2
/- THE LAST THEOREM (shape;LID,My.* are yours):
 My.Adr: a structure of the addresses that your layer names (classes,functions);My.Txt K t: a structure (Prop) of the equations over K;
 My.txt_mk:{K} {implicit addresses ..} (e1:nsIn K IY "law"=eV (eV (.ref f))) (e2:K.lookup f=eV #[oc,od,.func (fnOf "law" "law" params body scope dV kV doc pm an cdv ct),sl]) (e3:codeIn K cdv "law"=eX) .. : ∃t,My.Txt K t
(the c k_is has no namespace: write k_is) -/
namespace L2
open PyProof.Rows
def ir(s:JA)(j:fC):JA:=match s with
 |.ClassDef _ _ _ body _ _ _ _ _ _ _=>body.getD j (.Pass #[0,0,0,0])
 |_=>.Pass #[0,0,0,0]
def nw(s:JA):Arguments:=match s with
 |.FunctionDef _ a _ _ _ _ _ _ _ _=>a
 |_=>{posonlyargs:=[],args:=[],vararg:=eW,kwonlyargs:=[],kw_defaults:=[],kwarg:=eW,defaults:=[]}
def lh(s:JA):eZ JA:=match s with
 |.FunctionDef _ _ b _ _ _ _ _ _ _=>b
 |_=>[]
def i8(s:JA):Scope:=match s with
 |.FunctionDef _ _ _ _ _ _ sc _ _ _=>sc
 |_=>{kind:=.function,names:=[],isGenerator:=eY,isCoroutine:=eY}
abbrev CX0:CXT:=λ_ _ _ _ _ _=>False
abbrev E0:XK:=λ_ _ _=>False
theorem gt:la CX0 X E0:=λ_ _ _ _ _ _ _ h=>h.elim
structure Fun(K:Aa)(x qual:fS)(st:JA)(f:IS)(fd:JO):Prop where
 ex:∃(oc:IT) (od:fA IS) (kV doc pm:IT) (an:fA IS) (cdv ct:IT) (osl:fY (fA IT)),
  fd=Cq x qual (nw st) (lh st) (i8 st) .none kV doc pm an cdv ct/\K.lookup f=eV #[oc,od,.func fd,osl]/\FT K cdv qual=eX
 kp:BU K (.ref f)=eX
theorem Fun.ok{K:Aa}{st:JA}(F:Fun K x b st f fd)(S:FnScope N ps (i8 st))(len:∀vs H Q E,sp vs H Q E->vs.length=ps.length)(c:∀(a:IT) (A:JW) (outer:eZ Env) (s:IX) (H:Hp) (vs:eZ V) (Q:VK) (E:XK),Room k (A.deeper (envOfC b (i8 st) s.heap.objs.size f a))->sp vs H Q E->
 ∃t,PSs (cxOf CX0 P w K mg base N b (i8 st) f a A outer s H E).nox (lh st) t/\t {nx:=λ_ H'=>Q .non H',rt:=Q} (start N vs) H):FnOk P w K mg base CX0 (k+1) f fd ps sp:=by
 let(n,od,kV,l,pm,m,a,ct,g,rfl,i,e):=F.ex;refine ack i e S len λA outer s H vs Q E j d=>?_;let(t,h,q):=c a A outer s H vs Q E j d;exact#[t,h.nox,q]
theorem Fun.binds{K:Aa}{st:JA}(F:Fun K x c st f fd)(h:∀(kV a pm:IT) (d:fA IS) (b ct:IT) (us:eZ IT),us.length=ps.length->bindArgs (Cq x c (nw st) (lh st) (i8 st) .none kV a pm d b ct) #[us,[]]=pure (ps.zip us)):Binds K fd ps []:=by
 let(j,od,kV,a,pm,d,b,ct,e,rfl,i,g):=F.ex;exact .all (h kV a pm d b ct)
theorem fun_mk{K:Aa}{st:JA}{kV:IT}(l:K.lookup f=eV #[h,od,.func (Cq x a (nw st) (lh st) (i8 st) .none kV d pm g b ct),e])(c:FT K b a=eX)(k:BU K (.ref f)=eX):Fun K x a st f (Cq x a (nw st) (lh st) (i8 st) .none kV d pm g b ct):=#[#[h,od,kV,d,pm,g,b,ct,e,fR,l,c],k]
theorem j4(a:Room k A):A.units+1<cLine:=AI (D9 (by decide:1<=64) _) a.units
theorem kt(h:n<=1000):n<IR:=AI h (by decide)
theorem pv(i:fC)(b:autoParam (X.N[i]?=eV x) a4_)(hv:autoParam (Vis X.env.scope x) a5_)(hd:autoParam ((x==("__debug__":fS))=eY) a1_)(a:autoParam ((x==("__classdict__":fS))=eY) a1_):PE X (.Name x pos) (tVar i):=aft b hv hd a
theorem iteF{A B:Prop}(h:B):if eY=eX then A else B:=by
 rw[fD Aw];exact h
theorem iteT{A B:Prop}(h:A):if eX=eX then A else B:=by
 rw[fE rfl];exact h
def Same(H H':Hp):Prop:=∀b o,H b=eV o->H' b=eV o
theorem Same.refl(H:Hp):Same H H:=λ_ _ h=>h
theorem Same.trans(a:Same H d)(b:Same d e):Same H e:=λc o h=>b c o (a c o h)
theorem Same.free(e:Same H H')(h:H' l=Option.none):H l=Option.none:=by
 cases q:H l with
 |none=>rfl
 |some o =>
  rw[e l o q] at h;cases h
theorem Same.seq{K:Aa}(e:Same H H')(h:SqL K H a xs):SqL K H' a xs:=by
 rcases h with (h|⟨o,h⟩)|h
 . exact .inl (.inl (e _ _ h))
 . exact .inl (.inr #[o,e _ _ h])
 exact .inr h
inductive And3(P0 P1 P2:Prop):Prop
 |mk (h0:P0)(h1:P1)(h2:P2):And3 P0 P1 P2
inductive And4(P0 P1 P2 P3:Prop):Prop
 |mk (h0:P0)(h1:P1)(h2:P2)(h3:P3):And4 P0 P1 P2 P3
inductive And5(P0 P1 P2 P3 P4:Prop):Prop
 |mk (h0:P0)(h1:P1)(h2:P2)(h3:P3)(h4:P4):And5 P0 P1 P2 P3 P4
inductive And6(P0 P1 P2 P3 P4 P5:Prop):Prop
 |mk (h0:P0)(h1:P1)(h2:P2)(h3:P3)(h4:P4)(h5:P5):And6 P0 P1 P2 P3 P4 P5
inductive And7(P0 P1 P2 P3 P4 P5 P6:Prop):Prop
 |mk (h0:P0)(h1:P1)(h2:P2)(h3:P3)(h4:P4)(h5:P5)(h6:P6):And7 P0 P1 P2 P3 P4 P5 P6
inductive And8(P0 P1 P2 P3 P4 P5 P6 P7:Prop):Prop
 |mk (h0:P0)(h1:P1)(h2:P2)(h3:P3)(h4:P4)(h5:P5)(h6:P6)(h7:P7):And8 P0 P1 P2 P3 P4 P5 P6 P7
inductive And11(P0 P1 P2 P3 P4 P5 P6 P7 P8 P9 P10:Prop):Prop
 |mk (h0:P0)(h1:P1)(h2:P2)(h3:P3)(h4:P4)(h5:P5)(h6:P6)(h7:P7)(h8:P8)(h9:P9)(h10:P10):And11 P0 P1 P2 P3 P4 P5 P6 P7 P8 P9 P10
inductive Ex2{α0 α1:Type}(P:α0->α1->Prop):Prop
 |mk (a0:α0)(a1:α1)(h:P a0 a1):Ex2 P
inductive Ex3{α0 α1 α2:Type}(P:α0->α1->α2->Prop):Prop
 |mk (a0:α0)(a1:α1)(a2:α2)(h:P a0 a1 a2):Ex3 P
inductive Ex4{α0 α1 α2 α3:Type}(P:α0->α1->α2->α3->Prop):Prop
 |mk (a0:α0)(a1:α1)(a2:α2)(a3:α3)(h:P a0 a1 a2 a3):Ex4 P
inductive Ex5{α0 α1 α2 α3 α4:Type}(P:α0->α1->α2->α3->α4->Prop):Prop
 |mk (a0:α0)(a1:α1)(a2:α2)(a3:α3)(a4:α4)(h:P a0 a1 a2 a3 a4):Ex5 P
inductive Ex6{α0 α1 α2 α3 α4 α5:Type}(P:α0->α1->α2->α3->α4->α5->Prop):Prop
 |mk (a0:α0)(a1:α1)(a2:α2)(a3:α3)(a4:α4)(a5:α5)(h:P a0 a1 a2 a3 a4 a5):Ex6 P
inductive Ex7{α0 α1 α2 α3 α4 α5 α6:Type}(P:α0->α1->α2->α3->α4->α5->α6->Prop):Prop
 |mk (a0:α0)(a1:α1)(a2:α2)(a3:α3)(a4:α4)(a5:α5)(a6:α6)(h:P a0 a1 a2 a3 a4 a5 a6):Ex7 P
set_option maxHeartbeats 16000000
def blk(X:Cx)(N:fJ)(s:IX)(H:Hp)(sc:Scope)(cl:eZ (fS×IS))(C:IS)(ex:eZ IS):Cx where
 prog:=X.prog
 w:=X.w
 K:=X.K
 mg:=X.mg
 base:=X.base
 A:=X.A
 N:=N
 s₀:=s
 H₀:=H
 env:=compEnvC sc cl C X.env
 outer:=X.stack
 stack:=X.stack
 ex:=ex
 fn:=λ_=>eY
 calm:=X.calm
 pn:=[]
 xe:=λ_ _=>False
theorem a27{acc:IT}(I:fC->IX->Prop)(b:∀n s,I n s->IU (IV prog w) A (JM it) (λr j=>match r with
 |none=>R (.ok .next) j
 |some v=>IU (IV prog w) A (letOwnedTupleGo a it v) (λ_ d=>IU (IV prog w) A (assign a env v) (λ_ p =>
  IU (IV prog w) A (forIn g eX λc r=>if r=eX then do let ok<-isTrue c env (eval c env);pure (ForInStep.yield ok) else pure (ForInStep.yield r)) (λok i =>
   if ok=eX then IU (IV prog w) A (eval e env) (λx l =>
    IU (IV prog w) A (call (.builtin "list.append") [acc,x]) (λ_ t=>∃m,m<n/\I m t) (λ_ _=>False) l) (λ_ _=>False) i
   else ∃m,m<n/\I m i) (λ_ _=>False) p) (λ_ _=>False) d) (λ_ _=>False) j) (λ_ _=>False) s)(n:fC)(h:I n s):
 JS (IV prog w) A (.compLoop (.ListComp e [#[a,f,g,0]] scope pos) 0 it acc env) R s:=by
 refine codeAny_loop rfl I (λn s u=>?_) n h;show IU _ A ((compTurn (.ListComp e [#[a,f,g,0]] scope pos) 0 it acc env).onRaise (λx=>do noteFrame x env;theTreesLotGoes x)) _ _ s;refine wpAny_noted ?_;rw[compTurn_list];refine Ac (Gv (Ac (B2 (b n s u) (λr j o=>?_) λ_ _ h'=>h'.elim)));cases r with
 |none=>exact Al o
 |some v =>
  refine Ac (B2 o (λ_ d k=>?_) λ_ _ h'=>h'.elim);refine Ac (B2 k (λ_ p z=>Ac (B2 z (λok i q=>?_) λ_ _ h'=>h'.elim)) λ_ _ h'=>h'.elim);cases ok with
  |false=>exact Al #[fR,q]
  |true =>
   exact Ac (Ac (B2 q (λx l B=>Ac (B2 B (λ_ t y=>Al (Al #[fR,y])) λ_ _ h'=>h'.elim)) λ_ _ h'=>h'.elim))
def PTs(X:Cx)(ifs:eZ Expr)(t:TT):Prop :=
 ∀(pins:eZ (IS×Obj)) (s:IX) (σ:St) (H:Hp) (Q:gQ->Hp->Prop),Inv X pins σ H s->t σ H Q->
   IU (IV X.prog X.w) X.A (forIn ifs eX λc r=>if r=eX then do let ok<-isTrue c X.env (eval c X.env);pure (ForInStep.yield ok) else pure (ForInStep.yield r)) (TP X pins σ Q) X.xe s
def tYes:TT:=λ_ H Q=>Q eX H
theorem acq:PTs X [] tYes:=λ_ _ _ H _ I h=>wpAny_tests_nil #[H,I,h]
theorem a3b(h:PT X c t):PTs X [c] t:=λa s σ H Q I q=>wpAny_tests_one (h a s σ H Q I q)
def jy(σ:St)(ix:eZ fC):St:=ix.map λj=>(σ[j]?).getD eW
def oa(J:It)(H1:Hp)(σ:St)(ix:eZ fC)(tc:TT)(te:TE)(Q:VK):Prop:=∀D,H1 D=eW->
 ∃W:fC->fC->Hp->Prop,(∃m,W 0 m (upd H1 D (.lst [])))/\∀i m H,W i m H->
  (J.stop i H/\Q (.ref D) H)\/(J.go i H/\∀x H',J.yld i H x H'->tc (eV x::jy σ ix) H' λb H2 =>
   if b=eX then te (eV x::jy σ ix) H2 λy H3=>∃ys,H3 D=eV (.lst ys)/\ys.length<IR/\∃m',m'<m/\W (i+1) m' (upd H3 D (.lst (ys++[y])))
   else ∃m',m'<m/\W (i+1) m' H2)
def q0(ix:eZ fC)(wi:TI)(tc:TT)(te:TE):TE:=fun σ H Q=>wi σ H λJ H1=>oa J H1 σ ix tc te Q
theorem ae4(I:Inv X A σ H s)(n:J.kind=.function)(U:N=x::C.map λj=>(X.N[j]?).getD "")(a:∀y c,cl.lookup y=eV c->X.env.cells.lookup y=eV c)(h:∀y,((JK J X.env).names.lookup y=eV .cell\/(JK J X.env).names.lookup y=eV .free)->∃c,cl.lookup y=eV c)(O:∀j∈C,∃y,X.N[j]?=eV y/\X.env.kindOf y=eV .cell/\(JK J X.env).names.lookup y=eV .cell)(g:∀b∈R,FpOk X A H b)(M:∀b∈R,b<s.heap.objs.size)(P:h1.Ns s.heap.objs.size m)(G:∀b o,s.heap.get? b=eV o->h1.get? b=eV o):
 Inv (blk X N s H J cl s.heap.objs.size R) [] (eW::jy σ C) H {s with heap:=h1,toks:=tk}:=by
 let fresh:H s.heap.objs.size=eW:=I.hok.fresh (An _);exists #[I.ok.mod,n,I.ok.glob,I.ok.blt,An _,λy z c h1 h2=>I.ok.inj y z c (a y c h1) (a z c h2),λy E=>h y E,λy c z _=>fF (show eY=eX from z) (by decide),I.ok.hd,I.ok.frames,.inl rfl,
  λb t=>#[AB (M b t),λy c e=>(g b t).2.2.2.2.1 y c (a y c e)],I.bs,AA I.ok.bsz I.sz,λb o e t=>?_,λb t z=>?_,I.stack,I.stkFree],
  rfl,I.bare,Un.kept G,#[m,P,λi y v e1 W e3=>?_],λy c e=>?_,fresh,λy c e=>I.freeC y c (a y c e),λp hp=>fF (show p∈([]:eZ (IS×Obj)) from hp) (by simp),I.hok.kept G
 . rcases(g b t).2.2.2.1 with z|z;exact I.ok.noex b o e z;exact fF (AD (Az e) (AA I.ok.bsz z)) (AZ _)
 . rcases Ak.mp (I.stkSub b z) with q|q;exact(g b t).2.1 q;exact(g b t).2.2.1 q
 . cases i with
   |zero =>
    let d:(eV eW:fA (fA V))=eV (eV v):=W;cases d
   |succ i =>
    let d:(jy σ C)[i]?=eV (eV v):=by simpa using W
    unfold jy at d;rw[Ap] at d;cases q:C[i]? with
    |none=>rw[q] at d;cases d
    |some j =>
     rw[q] at d;let f:(σ[j]?).getD eW=eV v:=by simpa using d
     let Z:σ[j]?=eV (eV v):=by
      cases q2:σ[j]? with|none=>rw[q2] at f;cases f|some w=>rw[q2] at f;simpa using f
     let(F,E,S,T):=O j (Ar q);let ey:F=y:=by
      let D:N[i+1]?=eV y:=e1;rw[U,DR,Ap,q] at D;let:=Am D;simpa [E] using this
     subst ey;let(m0,aa,Q):=I.loc;let(u,r,l):=Q j F v E Z (.inr (.inl S));refine#[u,r,.inr #[.inl T,?_]];rcases l with⟨k,_⟩|⟨_,c,ec,ic⟩
     . rw[S] at k;cases k
     let(Y,B):=h F (.inl T);let:=a F Y B;rw[ec] at this;cases this;let(o,L,hd):=ic;exact#[c,B,o,G c o L,hd]
 . let(v,o,L,hd):=I.cell y c (a y c e);exact#[v,o,G c o L,hd]
 show(eW::jy σ C).length=N.length;rw[U];simp[jy]
theorem yl(N:fJ)(hc:X.calm=eX)(hi:PI X (.Name x px) E wi)(aD:∀s H C ex,PTs (blk X N s H k cl C ex) aq tc)(he:∀s H C ex,PE (blk X N s H k cl C ex) ap te)(B:k.kind=.function)(hN:N=x::ix.map λj=>(X.N[j]?).getD "")(aw:N.Nodup)(M:k.names.lookup x=eV .local)(aH:closureFor k X.env=pure cl)(Y:∀y∈k.names,y.2≠.cell)(R:∀y∈k.names,y.2=.local->k.names.lookup y.1=eV .local)(ai:∀y c,cl.lookup y=eV c->X.env.cells.lookup y=eV c)(ak:∀y,((JK k X.env).names.lookup y=eV .cell\/(JK k X.env).names.lookup y=eV .free)->∃c,cl.lookup y=eV c)(aC:∀j∈ix,∃y,X.N[j]?=eV y/\X.env.kindOf y=eV .cell/\(JK k X.env).names.lookup y=eV .cell)(hs:∀x,JC E X.env x=pure x)(I:Inv X l σ H s)(h:q0 ix wi tc te σ H Q)(af:∀(D C:IS) (L:IX) (G:Hp) (mm:fS->fA IT),Inv X l σ G L->L.heap.Ns C mm->G C=eW->C≠X.env.locals->(∀z c,X.env.cells.lookup z=eV c->c≠C)->X.s₀.heap.objs.size<=C->(∀p∈X.pn++l,p.1≠C)->Q (.ref D) G->compPost (IV X.prog X.w) X.A X.xe use RP (.ref D) C (.ok .next) L):
 IU (IV X.prog X.w) X.A (comprehension (.ListComp ap [#[.Name x px,E,aq,0]] k pos) k X.env p0 (newList []) eY (eval E X.env) use) RP X.xe s:=by
 refine wpAny_comprehension_free (use:=use) rfl hs aH B R (thn (hi l s σ H _ I h) λv s1 h1=>thn h1 λaO g h2=>?_);let(it,t,tn,J,O,e,I2,T,ah,f2,q2):=h2;subst e;let aL:O g.heap.objs.size=eW:=I2.hok.fresh (An _);let(W,(m0,w0),ab):=q2 g.heap.objs.size aL;refine AX ?_;let I3:Inv X l σ (upd O g.heap.objs.size (.lst [])) {g with heap:=g.heap.push {cls:=.type "list",dict:=eW,data:=.seq ([]:eZ IT).toArray}}:=by
  exact I2.lnew (its:=[]) (ys:=[]) (t':=g.toks) .nil (AF _)
 let ac:∀b∈t,b<g.heap.objs.size:=λb f=>by
  let(o,ho,_):=T.obj _ _ ah b f;exact Az ho
 let f3:∀b∈t,FpOk X l (upd O g.heap.objs.size (.lst [])) b:=λb f=>#[by rw[fh (AB (ac b f))];exact(f2 b f).1,(f2 b f).2]
 generalize hs3:({g with heap:=g.heap.push {cls:=.type "list",dict:=eW,data:=.seq ([]:eZ IT).toArray}}:IX)=a at I3;let ag:g.heap.objs.size<=a.heap.objs.size:=by rw[<- hs3];show _<=(g.heap.push _).objs.size;rw[B1];exact DW _
 let az:tn 0 a.heap:=T.keep _ _ _ ah λb _ o e=>by rw[<- hs3];exact Ai _ e
 let ar:∀b∈t,b<a.heap.objs.size:=λb f=>AD (ac b f) ag;refine wpAny_newFunctionEnv Y (by intro y hy;simp at hy) (λh4 ao al=>?_) B;let old:∀b o,a.heap.get? b=eV o->h4.get? b=eV o:=λb o e=>al.extBut b o (AB (Az e)) (Ai _ e);let I4:=ae4 (m:=_) (tk:=a.toks+([]:eZ (fS×IT)).length) (N:=N) I3 B hN ai ak aC f3 ar ao old;let ae:tn 0 h4:=T.keep _ _ _ az λb _ o e=>old b o e;let U:∀{H':Hp},(∀b∈t,H' b=eW)->∀b∈t,FpOk (blk X N a (upd O g.heap.objs.size (.lst [])) k cl a.heap.objs.size t) [] H' b:=λ{H'} hn b f =>
  #[hn b f,AB (ar b f),I4.ok.exfs b f,.inl f,λy c e=>(I4.ok.exf b f).2 y c e,λp hp=>fF (show p∈([]:eZ (IS×Obj)) from hp) (by simp)]
 let loop:JS (IV X.prog X.w) X.A (.compLoop (.ListComp ap [#[.Name x px,E,aq,0]] k pos) 0 (.ref it) (.ref g.heap.objs.size) (compEnvC k cl a.heap.objs.size X.env))
  (compPost (IV X.prog X.w) X.A X.xe use RP (.ref g.heap.objs.size) a.heap.objs.size) {a with heap:=h4,toks:=a.toks+([]:eZ (fS×IT)).length}:=by
  refine a27 (λn s'=>∃i v0 H',Inv (blk X N a (upd O g.heap.objs.size (.lst [])) k cl a.heap.objs.size t) [] (v0::jy σ ix) H' s'/\tn i s'.heap/\(∀b∈t,H' b=eW)/\W i n H') ?_ m0
   #[0,eW,_,I4,ae,λb f=>(f3 b f).1,w0]
  rintro n s5 ⟨i,v0,G,I5,am,an,w5⟩;rcases ab i n G w5 with⟨stop,qn⟩|⟨go,step⟩
  . refine thn (T.done (blk X N a (upd O g.heap.objs.size (.lst [])) k cl a.heap.objs.size t) rfl rfl rfl hc i [] s5 _ G _ I5 (U an) am stop) λr L P=>?_;let(hr,S):=P;subst hr;let(mm,hm,_):=S.loc;let I7:Inv X l σ G L:=by
     let hC:G a.heap.objs.size=eW:=S.free;let aP:a.heap.get? a.heap.objs.size=eW:=Ge (An _);let up:∀b o,b≠a.heap.objs.size->L.heap.get? b=eV o->L.heap.get? b=eV o:=λb o f e=>e;let aa:∀b o,a.heap.get? b=eV o->b≠a.heap.objs.size:=λb o e=>AB (Az e);let u:=S.base;refine I3.call' (s':=L) (ch:=t) S.os #[λb o e n f M=>?_,λb o e n f M=>?_,λb o e n M=>u.free b o e n M,λb o e M=>?_,u.tups,u.frzs,u.tbls] (λb o e=>?_) S.bare λb f=>#[(f3 b f).2.2.2.1,(f3 b f).2.1,(f3 b f).2.2.2.2.1,(f3 b f).2.2.2.2.2]
     . exact up b o (aa b o e) (u.keep b o e n f M)
     . let(sl,e1):=u.slot b o e n f M;exact#[sl,up b _ (aa b o e) e1]
     . let(o',e1):=u.there b o e M;exact#[o',up b _ (aa b o e) e1]
     refine(S.hok b o e).stay (λc v au q=>up c v ?_ q) (λ_ q=>q) λ_ _ q=>q;rintro rfl;rcases au with z|z;rw[<- z,hC] at e;cases e;rw[hC] at z;cases z
    let ay:G a.heap.objs.size=eW:=S.free;let aA:a.heap.objs.size≠X.env.locals:=BQ I3.lt;let aK:∀z c,X.env.cells.lookup z=eV c->c≠a.heap.objs.size:=λz c e e2=>by
     let(v',q):=I3.cell z c e;exact fF (e2 ▸ q.lt) (AZ _)
    exact af _ _ L G mm I7 hm ay aA aK I3.sz (λp hp e2=>fF (e2 ▸ Az (I3.pin p hp).1) (AZ _)) qn
  refine thn (T.item (blk X N a (upd O g.heap.objs.size (.lst [])) k cl a.heap.objs.size t) rfl rfl rfl hc i [] s5 _ G _ I5 (U an) am go) λr L P=>?_;let(u,hr,h6):=P;subst hr;refine thn h6 λ_ s7 P=>?_;let(y,H7,I7,r7,y7,Z,aB):=P;let aF:=I7.pinned (U aB) (T.obj _ _ Z);refine EZ (vz (i:=0) aF aw (by show N[0]?=eV x;rw[hN];rfl) (.inl (Gk M)) r7 (λs8 I8=>?_) (.inr (Gk M)));let aI:Inv (blk X N a (upd O g.heap.objs.size (.lst [])) k cl a.heap.objs.size t) ([]++r9 t s7.heap) (eV y::jy σ ix) H7 s8:=I8;refine thn (aD _ _ _ _ _ s8 _ H7 _ aI (step y H7 y7)) λok s9 P=>?_;let(H9,I9,q9):=P;let F:∀{H':Hp} {s':IX} {m':fC},Inv (blk X N a (upd O g.heap.objs.size (.lst [])) k cl a.heap.objs.size t) ([]++r9 t s7.heap) (eV y::jy σ ix) H' s'->m'<n->W (i+1) m' H'->
   ∃m,m<n/\∃i v0 H',Inv (blk X N a (upd O g.heap.objs.size (.lst [])) k cl a.heap.objs.size t) [] (v0::jy σ ix) H' s'/\tn i s'.heap/\(∀b∈t,H' b=eW)/\W i m H':=λ{H' s' m'} Ia hm wa=>by
   refine#[m',hm,i+1,eV y,H',Ia.unpinned,T.keep _ _ _ Z λb f o e=>(Ia.pin (b,o) (Bx _ (Bx _ (oy f e)))).1,λb f=>?_,wa];let(o,e,d):=T.obj _ _ Z b f;exact(Ia.pin (b,o) (Bx _ (Bx _ (oy f e)))).2.1
  cases ok with
  |false =>
   rw[fD Aw] at q9 |-;let(m',hm,wa):=q9;exact F I9 hm wa
  |true =>
   rw[fE rfl] at q9 |-;refine thn (he _ _ _ _ _ s9 _ H9 _ I9 q9) λax aM P=>?_;let(z,aj,aE,aJ,ys,hD,hl,m',hm,wa):=P;exact thn (ji _ aM _ aj (.ref g.heap.objs.size) [z] (.ref g.heap.objs.size) [ax] (λ_ H'=>H'=upd aj g.heap.objs.size (.lst (ys++[z]))) aE rfl (.cons aJ .nil) #[_,ys,z,fR,fR,hD,hl,fR])
    λ_ aN #[_,H11,aG,_,av]=>F aG hm (by rw[av];exact wa)
 subst hs3;exact codeAny_compStart_list loop (T.self _ 0 _ _ _ ae loop)
theorem xq(N:fJ)(J:X.calm=eX)(hi:PI X (.Name x Z) f Y)(r:∀s H C ex,PTs (blk X N s H a cl C ex) A L)(W:∀s H C ex,PE (blk X N s H a cl C ex) v te)(g:a.kind=.function)(U:N=x::E.map λj=>(X.N[j]?).getD "")(p:N.Nodup)(G:a.names.lookup x=eV .local)(q:closureFor a X.env=pure cl)(i:∀y∈a.names,y.2≠.cell)(d:∀y∈a.names,y.2=.local->a.names.lookup y.1=eV .local)(k:∀y c,cl.lookup y=eV c->X.env.cells.lookup y=eV c)(m:∀y,((JK a X.env).names.lookup y=eV .cell\/(JK a X.env).names.lookup y=eV .free)->∃c,cl.lookup y=eV c)(w:∀j∈E,∃y,X.N[j]?=eV y/\X.env.kindOf y=eV .cell/\(JK a X.env).names.lookup y=eV .cell)(R:autoParam (∀x,JC f X.env x=pure x) a3_):
 PE X (.ListComp v [#[.Name x Z,f,A,0]] a pos) (q0 E Y L te):=by
 intro B s σ H Q I h;rw[eval_ListComp];exact yl N J hi r W g U p G q i d k m w R I h λD C S O M T hm t n u hsz l F =>
  #[M,hm,λh7 z=>#[.ref D,O,T.turned (t':=S.toks) (it:=C) (λb o P e=>z.extBut b o P e) t n (.inr hsz) u l,fR,F]]
def Its(x:fS):It:=#[λi _=>i<x.cps.size,λi H v H'=>H'=H/\∃c,x.cps[i]?=eV c/\v=.str #[[c].toArray],λi _=>x.cps.size<=i]
theorem aax{K:Aa}(it:IS)(T:String)(p:T="str_ascii_iterator" \/ T="str_iterator"):Turn P w K R (Its x) [it] it (λi h=>h.IsStrIter it T x t i/\i<=x.cps.size) where
 mem:=by simp
 obj:=λi h st b a=>by
  let e:b=it:=by simpa using a
  subst e;let((o,e,c,d),_):=st;exact#[o,e,λv z=>by rw[d] at z;cases z]
 keep:=λi h h' st k=>#[let ⟨o,ho,r⟩:=st.1;#[o,k it (by simp) o ho,r],st.2]
 item:=by
  intro X O G M F i f s σ H E I C st J;subst O G M;let(n,q,S,B,D,y):=C it (by simp);let hi:i<x.cps.size:=J;let l:∀h',h'.IsStrIter it T x t (i+1)->(∀b o,b≠it->s.heap.get? b=eV o->h'.get? b=eV o)->∀u:Tok,∃L,eV (Value.str #[[x.cps[i]].toArray] u)=eV L/\
   IU (IV X.prog X.w) X.A (letOwnedTupleGo R (.ref it) L) (λ_ Q=>∃v H',Inv X f σ H' Q/\RelV v L/\(Its x).yld i H v H'/\(Q.heap.IsStrIter it T x t (i+1)/\i+1<=x.cps.size)/\∀b∈[it],H' b=eW) E {s with heap:=h',toks:=s.toks+1}:=λh' m kk u=>by
   let U:Inv X f σ H {s with heap:=h',toks:=s.toks+1}:=I.turned (λb o a e=>kk b o a e) n q B D y;let(o,e,c,d):=id m;refine#[_,fR,zr (s:={s with heap:=h',toks:=s.toks+1}) e c d (by rcases p with rfl|rfl<;>decide) #[.str #[[x.cps[i]].toArray],H,U,#[u,rfl],#[rfl,_,by simp[hi],rfl],#[m,hi],λb a=>?_]];exact(C b a).1
  rcases p with rfl|rfl;exact wpAny_pyNext_ascii_item st.1 (c:=x.cps[i]) (by simp[hi]) λh' g j=>l h' g (λb o a e=>j.extBut b o a e) _
  exact wpAny_pyNext_wide_item st.1 (c:=x.cps[i]) (by simp[hi]) λh' g j=>l h' g (λb o a e=>j.extBut b o a e) _
 done:=by
  intro X O G M F i f s σ H E I C st J;subst O G M;let(n,q,S,B,D,y):=C it (by simp);let hi:x.cps.size<=i:=J;rcases p with rfl|rfl;exact wpAny_pyNext_ascii_end (I.ok.hd F) st.1 (by simp;omega) λh' N=>#[fR,I.turned (t':=s.toks) (λb o a e=>N b o a e) n q B D y]
  exact wpAny_pyNext_wide_end (I.ok.hd F) st.1 (by simp;omega) λh' N=>#[fR,I.turned (t':=s.toks) (λb o a e=>N b o a e) n q B D y]
 self:=λ_ _ _ _ _ st h=>by
  rcases p with rfl|rfl;exact wpAny_pyIter_striter_ascii st.1 h;exact wpAny_pyIter_striter_wide st.1 h
def iStr(tl:TE):TI:=fun σ H R=>tl σ H λx H1=>∃z,x=.str z/\R (Its z) H1
theorem af1(hl:PE X l j):PI X g l (iStr j):=by
 intro a s σ H R I h;refine thn (hl a s σ H _ I h) λv s1 p=>?_;let(x,k,d,r1,n):=p;let(z,e,q):=n;subst e;let(t,rfl):=r1;let c:∀(o:Obj) (T:String),(T="str_ascii_iterator" \/ T="str_iterator")->(s1.heap.push o).IsStrIter s1.heap.objs.size T z t 0->PIE X a σ g R (.ref s1.heap.objs.size) {s1 with heap:=s1.heap.push o}:=λo T m i=>by
  refine#[s1.heap.objs.size,[s1.heap.objs.size],_,_,k,fR,d.kept (t':=s1.toks) λb o e=>Ai _ e,aax (x:=z) (t:=t) _ T m,#[i,AF _],λb f=>?_,q];let e:b=s1.heap.objs.size:=by simpa using f
  subst e;exact d.fpOk (An _) (d.hok.fresh (An _))
 cases ha:z.cps.all (· < 128);exact wpAny_pyIter_wide ha (c _ _ (.inr rfl) #[_,Ay _ rfl,fR,fR]);exact wpAny_pyIter_ascii ha (c _ _ (.inl rfl) #[_,Ay _ rfl,fR,fR])
theorem vp(t:X.calm=eX):kb X (.builtin "all") (λxs H Q=>∃(a:IS) (bs:eZ gQ),xs=[.ref a]/\SqL X.K H a (bs.map V.bl)/\Q (.bl (bs.all id)) H):=by
 intro c s σ H xs us Q I r h;let(a,bs,rfl,B,q):=h;let(u,rfl,j):=r.one;cases j;let(its,l,p,hz):=I.list B;let g:a<s.heap.objs.size:=by let(o,n,e,_):=p;exact Az e
 refine call_all_walk (DS p.isList ?_);let len:bs.length=its.length:=by let:=l.length;simpa using this
 exists s.heap.objs.size,_,_,_,_,_,λi=>(bs[i]?).getD eY,fR,Ib (A:=X.A.in1) (show X.A.in1.handled=eW from I.ok.hd t) s.heap.objs.size a (AB g) its.toArray,#[#[_,Ay _ rfl,fR,fR],p.isList.at λo e=>Ai _ e],?_
 . intro i v s' D C hv m;let d:its[i]?=eV v:=by simpa using hv
   cases f:bs[i]? with
   |none =>
    let h1:=DC.mp f;let h2:=(Ao.mp d).1
    lia
   |some b =>
    let(u,k,j):=l.get (i:=i) (x:=V.bl b) (by rw[Ap,f]<;>rfl);rw[d] at k;cases k;cases j;simp only[f,CI] at m;exact BL m
 intro h' tk w;let e:(Bb its.toArray.size).all (λi=>(bs[i]?).getD eY)=bs.all id:=by
  rw[A0,<- len];rw[Bm];simp only[Bo,Br,_root_.id];constructor;intro h b f;let(i,hi,e):=Gn.mp f;let:=h i hi;rw[Ah hi,CI,e] at this;exact this;intro h i hi;rw[Ah hi,CI];exact h _ (AH hi)
 let fr:FpOk X c H s.heap.objs.size:=I.fpOk (An _) (I.hok.fresh (An _));refine#[.bl (bs.all id),H,?_,by rw[e];rfl,q];let y:Inv X c σ H {s with heap:=h',toks:=tk}:=I.kept (h':=h') (t':=tk) λb o e=>w b o (λz=>by
  let:b=s.heap.objs.size:=by simpa using z
  exact fF (Az e) (by rw[this];exact AZ _)) (Ai _ e)
 exact y
theorem a4f(t:SetTable)(es:fY (fB×IT))(h:fB)(x:IT):(layNew t es h x).2.1.led=t.led:=by
 unfold layNew;split;dsimp only;unfold SetTable.orStandIn;split<;>rfl;rfl
theorem tj{t:SetTable}(h:t.relaid a n=eV (t',o)):t'.led=t.led/\t'.plain=t.plain:=by
 unfold SetTable.relaid SetTable.laid at h;cases e:SetTable.layClean (SetTable.sizeAbove n-1) a with
 |none=>rw[e] at h;cases h
 |some ow =>
  rw[e] at h;let h':=Am h;cases h';exact#[fR,fR]
theorem a0u(t:SetTable)(es:fY (fB×IT))(n:fC):(relayAll t es n).2.1.led=t.led:=by
 unfold relayAll;split;rename_i t' o e;dsimp only;split;exact(tj e).1;rfl
 rfl
theorem xk(t:SetTable)(es:fY (fB×IT))(n:fC)(hp:(relayAll t es n).2.1.plain=eX):t.plain=eX:=by
 unfold relayAll at hp;split at hp;rename_i t' o e;dsimp only at hp;split at hp;rw[<- (tj e).2];exact hp;cases hp
 cases hp
def mu:IT->fS
 |.str x _=>x
 |_=>#[[].toArray]
def SSet(P:JH)(w:JL)(h:JG)(a:IS)(ss:fJ):Prop :=
 ∃o es ep t,h.get? a=eV o/\o.ExactSet/\o.data=.set es ep t/\ElemsOf (JT P w) es.toList/\es.toList.map (λe=>mu e.2)=ss/\ss.Nodup/\es.size<scanBound/\t.fits es.size=eX/\
  t.led = !w.params.followText "set-order" /\ (1<=es.size->t.plain=eY)
theorem a5c(h:(JT P w).is x v=eX):∃u,v=.str x u:=E4 h
theorem yb(h:ElemsOf (JT P w) l)(a:e∈l):∃u,e.2=.str (mu e.2) u:=by
 let((k,c,_),_):=h e a;let(u,b):=a5c c;exact#[u,by rw[b];rfl]
theorem a99(h:ElemsOf (JT P w) l)(x:fS):(l.findIdx? (λe=>(JT P w).is x e.2)).isSome=decide (x∈l.map λe=>mu e.2):=by
 rw[Bm,List.findIdx?_isSome,AV,fZ,As];constructor;rintro⟨e,a,c⟩;let(u,b):=a5c c;exact#[e,a,by rw[b];rfl];rintro⟨e,a,rfl⟩;let(u,b):=yb h a;exists e,a;rw[b];exact Ic _ _ _ _
theorem ab5(hS:SSet P w s.heap a p)(S:p.length+1<scanBound)(h:∀h' f b,BE a s.heap h'->SSet P w h' a f->(if x∈p then f=p else f.Perm (p++[x]))->Q b {s with heap:=h'}):
 IU (IV P w) A (setAddHashed a (.str x u) (hashStr w x)) Q E s:=by
 let(o,es,ep,t,ho,R,hd,C,D,ac,hb,hf,q,al):=hS;let N:(JT P w).is x (.str x u)=eX:=Ic _ _ _ _;let hn:es.size=p.length:=by rw[<- D,Ad,AC]
 unfold setAddHashed setAddHashedIn;refine BH (Ac (De ho hd hf ?_));dsimp only;rw[byScan_of (knd:=JT P w) rfl hb C];simp only[↓reduceIte];unfold setAddByScan;refine Ac ?_;refine Ac (CQ ?_);refine Ac (wpAny_setScan_of (knd:=JT P w) N ho hd hf C ?_);let v:=a99 C x;rw[D] at v;cases hr:List.findIdx? (λe=>(JT P w).is x e.2) es.toList with
 |some j =>
  dsimp only;rw[hr] at v;let hx:x∈p:=fV (Io v);refine Al (Al ?_);let:=h s.heap p eY (Heap.SameBut.refl a s.heap) #[o,es,ep,t,ho,R,hd,C,D,ac,hb,hf,q,al] (by rw[fE hx]);exact this
 |none =>
  dsimp only;rw[hr] at v;let hx:x∉p:=fW (Io v);let ag:∀(b:gQ) {M:IX} {H:Unit->IX->Prop},H () M->IU (IV P w) A (match b with|true=>rule "set.scan.the-table-gave-way" | false=>pure ()) H E M :=
   λb M H n=>by cases b<;>first|exact Al n|exact CQ n
  let d:=layNew_perm t es (hashStr w x) (.str x u);let k:=layNew_fits t es (hashStr w x) (.str x u);let m:=a4f t es (hashStr w x) (.str x u);show IU (IV P w) A _ _ E s;let hash:(JT P w).hash x=hashStr w x:=rfl
  try rw[hash]
  generalize hL:layNew t es (hashStr w x) (.str x u)=L at d k m |-;let(c,t1,wasDummy,ap):=L;dsimp only at d k m |-;rw[Hs] at d;let G:ElemsOf (JT P w) c.toList:=(ElemsOf.push (knd:=JT P w) C N rfl).perm d;let B:(c.toList.map λe=>mu e.2).Perm (p++[x]):=by
   let:=d.map (λe:fB×IT=>mu e.2);rw[Ax,D] at this;exact this
  let ab:c.size=p.length+1:=by rw[<- AC,d.length_eq,Aj,AC,hn];rfl
  let U:c.size<scanBound:=by rw[ab];exact S
  let J:(c.toList.map λe=>mu e.2).Nodup:=by
   refine B.nodup_iff.mpr ?_;rw[AN];exact#[ac,by simp,λy hy z hz e=>by rw[Ae.mp hz] at e;exact hx (e ▸ hy)]
  refine Ac (ag _ ?_);let tail:∀i:SetTable,i.fits c.size=eX->i.led=t.led->i.plain=eY->∀(g:gQ->Sem Unit),(∀(b:gQ) (M:IX) (H:Unit->IX->Prop),H () M->IU (IV P w) A (g b) H E M)->
   IU (IV P w) A (do
    storeSet a c i
    if(!wasDummy && i.tooFull)=eX then do
        g (relayAll i c (Co c.size)).2.2
        storeSet a (relayAll i c (Co c.size)).1 (relayAll i c (Co c.size)).2.1
        pure (eV eX)
     else pure (eV eX)) (λr s'=>r=eV eX/\∃h' f,s'={s with heap:=h'}/\BE a s.heap h'/\SSet P w h' a f/\f.Perm (p++[x])) E s:=by
   intro i aj ae Y g hg;refine Ac (Ht ho hd ?_ (Fc U));let X:(s.heap.update a (Ep c i)).get? a=eV {o with data:=.set c (ep+1) i}:=by
    let:=BG (Ep c i) ho (by rw[Hj c i hd];rfl);rw[Hj c i hd] at this;exact this
   let F:=Ck s.heap a (Ep c i);split
   . let hp:=relayAll_perm i c (Co c.size);let T:=relayAll_fits i c (Co c.size);let W:=a0u i c (Co c.size);let Z:=xk i c (Co c.size);generalize hRl:relayAll i c (Co c.size)=Rl at hp T W Z |-;let(l,O,ai):=Rl;dsimp only at hp T W Z |-;let hsz:l.size=c.size:=by rw[<- AC,hp.length_eq,AC]
     let af:l.size<scanBound:=by rw[hsz];exact U
     refine Ac (hg _ _ _ ?_);refine Ac (Ht X rfl ?_ (Fc af));let ao:((s.heap.update a (Ep c i)).update a (Ep l O)).get? a=eV {o with data:=.set l (ep+1+1) O}:=by
      let:=BG (Ep l O) X (by rw[Hj l O rfl];rfl);rw[Hj (o:={o with data:=.set c (ep+1) i}) l O rfl] at this;exact this
     let I:=hp.map (λe:fB×IT=>mu e.2);refine Al #[fR,_,l.toList.map (λe=>mu e.2),fR,F.trans (Ck _ a _),#[_,l,ep+1+1,O,ao,R,fR,G.perm hp,fR,I.nodup_iff.mpr J,af,T,W.trans (ae.trans q),λ_=>?_],I.trans B];cases n:O.plain with|false=>rfl|true=>rw[Z n] at Y;cases Y
   exact Al #[fR,_,c.toList.map (λe=>mu e.2),fR,F,#[_,c,ep+1,i,X,R,fR,G,fR,J,U,aj,ae.trans q,λ_=>Y],B]
  let aa:∀s':IX,(∃h' f,s'={s with heap:=h'}/\BE a s.heap h'/\SSet P w h' a f/\f.Perm (p++[x]))->Q eX s':=by
   rintro s' ⟨h',f,rfl,ak,ah,am⟩;exact h h' f eX ak ah (by rw[fD hx];exact am)
  split
  . refine Ac ?_;rw[hashByValue_scannable 8 (x:=.str x u) rfl];refine Al ?_;dsimp only[plainKind];simp only[B9,if_false];refine B2 (tail {t1 with plain:=eY} (SetTable.fits_plain_off k) m rfl _ ?_) (λr s' n=>?_) λ_ _ e=>e
    . intro b M H n;cases b<;>first|exact Al n|exact CQ n
    . let(rfl,n):=n;exact Al (aa s' n)
  rename_i an;refine Ac (Al ?_);simp only[↓reduceIte];refine B2 (tail t1 k m (by simpa using an) _ ?_) (λr s' n=>?_) λ_ _ e=>e
  . intro b M H n;cases b<;>first|exact Al n|exact CQ n
  . let(rfl,n):=n;exact Al (aa s' n)
inductive Dd:fJ->fJ->Prop
 |nil:Dd [] []
 |old{xs ss:fJ}{x:fS}:Dd xs ss->x∈ss->Dd (xs++[x]) ss
 |new{xs ss ss':fJ}{x:fS}:Dd xs ss->x∉ss->ss'.Perm (ss++[x])->Dd (xs++[x]) ss'
theorem Dd.mem(h:Dd xs a):∀y,y∈a↔y∈xs:=by
 induction h with
 |nil=>intro y;exact Iff.rfl
 |old d hx ih =>
  rename_i zs a x;intro y;rw[ih y,Ab,Ae];constructor;exact .inl
  rintro (q|rfl);exact q;exact(ih y).mp hx
 |new d hx hp ih =>
  rename_i zs a b x;intro y;rw[hp.mem_iff,Ab,Ab,ih y]
theorem Dd.nodup(h:Dd xs a):a.Nodup:=by
 induction h with
 |nil=>exact Bh
 |old d hx ih=>exact ih
 |new d hx hp ih =>
  rename_i zs a c x;refine hp.nodup_iff.mpr (AN.mpr #[ih,by simp,λy b z hz e=>?_]);rw[Ae.mp hz] at e;exact hx (e ▸ b)
theorem Dd.len(h:Dd xs a):a.length<=xs.length:=by
 induction h with|nil=>exact An _|old d hx ih=>rw[Aj];exact AA ih (Cb _ _)|new d hx hp ih=>rw[hp.length_eq,Aj,Aj];exact Nat.add_le_add_right ih _
theorem a2x:∀{vs:eZ IT}{xs:fJ},StrsAre vs xs->∀(i:fC) (v:IT),vs[i]?=eV v->∃x t,xs[i]?=eV x/\v=.str x t
 |_,_,.nil,i,v,h=>by simp at h
 |_,_,.cons x t r,0,v,h=>by simp at h;exact#[x,t,fR,h.symm]
 |_,_,.cons x t r,i+1,v,h=>by
  let(y,u,b,a):=a2x r i v (by simpa using h);exact#[y,u,by simpa using b,a]
theorem SSet.at(d:SSet P w h a b)(k:∀o,h.get? a=eV o->h'.get? a=eV o):SSet P w h' a b:=by
 let(o,es,ep,c,e,rest):=d;exact#[o,es,ep,c,k o e,rest]
theorem vw{St:fC->IX->Prop}(W:WalksS P w A.in1 I Q D G n Pv St)(S:IS)(p:S∉Q)(xs:fJ)(hn:xs.length=n)(z:∀i v,Pv i v->∃x t,xs[i]?=eV x/\v=.str x t)(j:n+1<scanBound):
 ∀(k i:fC) (s:IX) (d:fJ),n-i=k->i<=n->St i s->SSet P w s.heap S d->Dd (xs.take i) d->
   (∀s' a,Moved (S::D) G s s'->SSet P w s'.heap S a->Dd xs a->R (.ok (.ret .none)) s')->
   JS (IV P w) A (.builtin "set.update.loop" #[[.ref S,.ref I],[]]) R s:=by
 let l:S∉D:=λh=>p (W.sub _ h);let f:∀b∈D,b∈S::D:=λb j=>Ag _ j;intro k;induction k with
 |zero =>
  intro i s d U hi g N hd M;let E:i=n:=by lia
  subst E;refine Cf DJ ?_;rw[BW Cr _];show IU _ A.in1 (JM (.ref I)>>=_) _ _ s;refine Ac (W.done s _ _ g λs' hm=>?_);show IU _ A.in1 (ret Value.none) _ _ s';refine Al (M s' d (hm.mono f) (N.at λo e=>hm.heap S _ l e) ?_);rw[B0 (Hf hn)] at hd;exact hd
 |succ k ih =>
  intro i s d U hi g N hd M;let q:i<n:=by lia
  refine Cf DJ ?_;rw[BW Cr _];show IU _ A.in1 (JM (.ref I)>>=_) _ _ s;refine Ac (W.item i s _ _ q g λv s' X r hm=>?_);let(x,t,T,rfl):=z i v X;let H:SSet P w s'.heap S d:=N.at λo e=>hm.heap S _ l e;show IU _ A.in1 (holding [Value.str x t] (setAdd S (.str x t))>>=_) _ _ s';refine Ac (BH ?_);unfold setAdd;refine BH ?_;refine Ac ((JT P w).pyHash (k:=x) (Ic _ _ _ _) ?_);let hl:d.length<=i:=by let:=hd.len;rw[AG] at this;lia
  refine ab5 (s:={s' with toks:=s'.toks+1}) H (by lia) λh' a b y J c=>?_;let L:Dd (xs.take (i+1)) a:=by
   let e:xs.take (i+1)=xs.take i++[x]:=by rw[AL,T];rfl
   rw[e];by_cases hm:x∈d;rw[fE hm] at c;rw[c];exact .old hd hm;rw[fD hm] at c;exact .new hd hm c
  refine Al #[CO Cr _,ih (i+1) _ a (by lia) q (W.frame _ s' _ _ r (DW _) λb j o e=>?_) J L λO u C m B=>?_];rw[y.2 b (λh:b=S=>p (by rw[<- h];exact j))];exact e;refine M O u (Moved.trans W.gtrans ((hm.mono f).then_heap (DW _) λb o j e=>?_) C) m B;rw[y.2 b (λh:b=S=>j (by rw[h];exact Af))];exact e
theorem v9(a:IT)(h:Q₁ (.ref s.heap.objs.size) {s with heap:=s.heap.push {cls:=.type "set",dict:=eW,data:=.set [].toArray 0 (.fresh 0 0 (!w.params.followText "set-order"))}}):
 JS (IV P w) A (.call (.builtin "set.__new__") #[[.type "set",a],[]]) (wants Q₁ E) s:=by
 refine codeAny_of_tree ?_;show IU _ A.in1 (do checkBuiltinCall "set.__new__" #[[.type "set",a],[]];again (.builtin "set.__new__" #[[.type "set",a],[]])) _ _ s;refine Ac (FI (PySem.F.newCall_set_1 a) (Al #[CO FU _,Cf PySem.F.entry_set_new ?_]));rw[BW FU _];unfold Builtin.«set.__new__» Builtin.Frozenset.newClass;let b:=sub_set_self;let(hp,g,d,tk,os):=s;dsimp only
 wp_walk
 refine Fm (Al ?_);dsimp only;simp only[newObj];refine Ac (wpAny_alloc (Al ?_));exact Al h
set_option maxHeartbeats 16000000 in
theorem zk(hh:A.handled=eW)(hl:s.heap.IsList l items)(hi:StrsAre items.toList xs)(H:items.size+1<scanBound)(h:∀(h':JG) (tk:fC) (g:fJ),SSet P w h' s.heap.objs.size g->Dd xs g->(∀b o,b<s.heap.objs.size->s.heap.get? b=eV o->h'.get? b=eV o)->Q (.ref s.heap.objs.size) {s with heap:=h',toks:=tk}):
 IU (IV P w) A (call (.type "set") [.ref l]) Q E s:=by
 let(c,tl,X):=PySem.F.called_set.mro;let N:=PySem.F.called_set.made;let aa:=PySem.F.called_set.sub;refine HW (codeAny_of_tree ?_);show IU _ _ (callAny (.type "set") _) _ _ _;refine Al #[Code.quiet_builtin _ (by decide),Cf PySem.F.entry_type_call ?_];rw[Around.under_plain (weight_type_call_type "set" [.ref l] []) rfl];let h1:=PySem.F.called_set.notType;let h2:=PySem.F.called_set.canCreate;let ah:=PySem.F.typeCall_set_1 (.ref l)
 repeat (any_goals (first|assumption|wp_step))
 refine Dg (v9 (.ref l) (E:=E) (Q₁:=λobj s₁=>obj=.ref s.heap.objs.size/\s₁={s with heap:=s.heap.push {cls:=.type "set",dict:=eW,data:=.set [].toArray 0 (.fresh 0 0 (!w.params.followText "set-order"))}}) #[rfl,rfl]) λr s₁ S=>?_;cases r with
 |error e=>exact S
 |ok fl =>
  cases fl with
  |ret obj =>
   let(rfl,rfl):=S;generalize hled:(!w.params.followText "set-order")=led;let Y:(s.heap.push {cls:=.type "set",dict:=eW,data:=.set [].toArray 0 (.fresh 0 0 led)}).get? s.heap.objs.size=eV {cls:=.type "set",dict:=eW,data:=.set [].toArray 0 (.fresh 0 0 led)}:=Ay _ rfl;let hT:Gw {s with heap:=s.heap.push {cls:=.type "set",dict:=eW,data:=.set [].toArray 0 (.fresh 0 0 led)}} (.ref s.heap.objs.size) "set" := #[_,Y,rfl]
   let ag:=PySem.F.called_set.init.lookup;let ae:=PySem.F.called_set.init.bind (.ref s.heap.objs.size)
   repeat (any_goals (first|assumption|wp_step))
   refine Dg (Gp (R:=wants (λr s₂=>r=.none/\∃h' tk g,s₂={s with heap:=h',toks:=tk}/\SSet P w h' s.heap.objs.size g/\Dd xs g/\
    (∀b o,b<s.heap.objs.size->s.heap.get? b=eV o->h'.get? b=eV o)) E) PySem.F.called_set.init.plain PySem.F.entry_set_init (check_set_init_1 hT ?_)) λr₂ s₂ f=>?_
   . let(ol,C,n,nl,B):=hl;let(ab,j,I,a):=ol;simp only at n B;subst n;subst B;let y:(s.heap.push {cls:=.type "set",dict:=eW,data:=.set [].toArray 0 (.fresh 0 0 led)}).get? l=eV {cls:=.type "list",dict:=j,data:=.seq items nl,slots:=a}:=Ai _ C;let ac:=PySem.F.sub_list_set;let Z:=PySem.F.sub_list_frozenset;let af:(Value.type "list"==Value.type "dict")=eY:=by decide
     let D:(s.heap.push {cls:=.type "set",dict:=eW,data:=.set [].toArray 0 (.fresh 0 0 led)}).IsList l items:=#[_,y,fR,nl,fR]
     unfold Builtin.«set.__init__» noKeywords Builtin.Frozenset.updateFrom;generalize hPI:pyIter=PI
     wp_walk
     subst hPI;refine DS D ?_;refine Ac (wpAny_runValue ?_);let m:l<s.heap.objs.size:=Az C;let J:A.in1.in1.in1.handled=eW:=by simp[hh]
     let p:l≠(s.heap.push {cls:=.type "set",dict:=eW,data:=.set [].toArray 0 (.fresh 0 0 led)}).objs.size:=by
      rw[B1];exact AB (C0 m)
     let O:s.heap.objs.size∉[(s.heap.push {cls:=.type "set",dict:=eW,data:=.set [].toArray 0 (.fresh 0 0 led)}).objs.size,l]:=by
      rw[B1];simp only[Ak,Ae,Aq,gD,not_or];exact#[AB (BB _),BQ m]
     let G:xs.length=items.size:=by let:=hi.length;simpa using this.symm
     let u:∀(i:fC) (v:IT),items[i]?=eV v->∃x t,xs[i]?=eV x/\v=.str x t:=λi v hv=>a2x hi i v (by rw[B3];exact hv);refine vw ((Ib J _ l p items).toS) s.heap.objs.size O xs G u H (items.size-0) 0 _ [] (by lia) (AF _)
      #[#[_,Ay _ rfl,fR,fR],(D.push _)] ?hS0 (by rw[Cd];exact .nil) ?hR
     case hS0 =>
      let z:((s.heap.push {cls:=.type "set",dict:=eW,data:=.set [].toArray 0 (.fresh 0 0 led)}).push {cls:=.type "list_iterator",data:=.fields [.ref l,.int 0 0].toArray}).get? s.heap.objs.size
       =eV {cls:=.type "set",dict:=eW,data:=.set [].toArray 0 (.fresh 0 0 led)}:=Ai _ Y
      exact#[_,[].toArray,0,_,z,#[fR,fR,fR],fR,λe he=>by simp at he,fR,Bh,by decide,by rfl,hled.symm,λq=>fF q (by simp)]
     case hR =>
      intro s' L hm d k;let(h',g',d',tk',U):=s';let eg:g'=s.gens:=hm.gens;let ed:d'=s.drawn:=hm.drawn;let eo:U=s.os:=hm.os;subst eg;subst ed;subst eo;show IU _ _ _ _ _ _;refine Al ?_;show IU _ _ (ret Value.none) _ _ _;refine Al #[fR,h',tk',L,fR,d,k,λb o H e=>?_];let M:b≠s.heap.objs.size:=AB H;let W:b≠(s.heap.push {cls:=.type "set",dict:=eW,data:=.set [].toArray 0 (.fresh 0 0 led)}).objs.size:=by
       rw[B1];exact AB (C0 H)
      exact hm.heap b o (by simp only[Ak,Ae,Aq,gD,not_or];exact#[M,W]) (Ai _ (Ai _ e))
   cases r₂ with
   |error e=>exact f
   |ok fl₂ =>
    cases fl₂ with
    |ret r =>
     let(rfl,h',tk,g,rfl,d,k,T):=f
     repeat (any_goals (first|assumption|wp_step))
     exact h _ _ g d k T
    |_=>exact f.elim
  |_=>exact S.elim
namespace SF
theorem entry_set_iter:entryFor table "set.__iter__"=eV Builtin.«frozenset.__iter__» := FV (id' := "frozenset.__iter__") (by kernel_rfl) rfl (by decide) (by kernel_rfl)
theorem slot_next:Slot "set_iterator" "__next__" "set_iterator.__next__" :=
 .of (owner := "set_iterator") (n := "__next__") (by rw[DD,Cu];kernel_rfl) (by decide) (by decide) (by decide)
  (by first|exact .inl (by decide)|exact .inr (by decide)) (by rw[E8];kernel_rfl)
theorem entry_next:entryFor table "set_iterator.__next__"=eV Builtin.«set_iterator.__next__» := entryFor_of_tree (by kernel_rfl)
theorem args_next(a:IT):argsOk "set_iterator.__next__" #[[a],[]]:=by unfold argsOk;kernel_rfl
theorem slot_self:Slot "set_iterator" "__iter__" "set_iterator.__iter__" :=
 .of (owner := "set_iterator") (n := "__iter__") (by rw[DD,Cu];kernel_rfl) (by decide) (by decide) (by decide)
  (by first|exact .inl (by decide)|exact .inr (by decide)) (by rw[E8];kernel_rfl)
theorem entry_self:entryFor table "set_iterator.__iter__"=eV Builtin.«dict_keyiterator.__iter__» :=
 FV (id' := "dict_keyiterator.__iter__") (by kernel_rfl) rfl (by decide) (by kernel_rfl)
theorem args_self(a:IT):argsOk "set_iterator.__iter__" #[[a],[]]:=by unfold argsOk;kernel_rfl
theorem set_len:typeLookup (.type "set") "__len__"=pure (eV (.builtin "set.__len__")):=by rw[DD,Cu];kernel_rfl
theorem sub_set:isSubtype (.type "set") (.type "set")=pure eX:=by rw[E8];kernel_rfl
end SF
open PyProof.Rows
theorem su:∀(l:eZ α) (i:fC) (h:i<l.length),(l[i]::l.eraseIdx i).Perm l
 |x::r,0,_=>E9 _
 |x::r,i+1,h=>by
  let h':i<r.length:=by simpa using h
  exact(List.Perm.swap x r[i] (r.eraseIdx i)).trans ((su r i h').cons x)
theorem v8(next:fC->fC):∀(a k:fC) (left:eZ α) (out:fY α),left.length=a->(Hk next a k left out).toList.Perm (out.toList++left)
 |0,k,left,out,h=>by
  let e:left=[]:=Ci h;subst e;simp[Hk]
 |a+1,k,left,out,h=>by
  let b:next k % left.length<left.length:=Nat.mod_lt _ (by lia)
  unfold Hk;rw[Ah b];dsimp only;refine(v8 next a (k+1) _ _ (by rw[ET b];lia)).trans ?_;rw[Hs,A4];refine List.Perm.append_left _ ?_;rw[Cw];exact su _ _ b
theorem yr(next:fC->fC)(xs:fY α):(pickOrder next xs).toList.Perm xs.toList:=by
 let:=v8 next xs.size 0 xs.toList [].toArray (by simp)
 simpa [pickOrder] using this
section
theorem a4o(hn:n≠0)(h:∀i d,i<n->Q i {s with drawn:=d}):IU (IV P w) A (choose a n) Q E s:=by
 intro Γ p b;unfold choose;rw[Sem.wp_choose];exact#[hn,h _ _ (Nat.mod_lt _ (Nat.pos_of_ne_zero hn))]
variable{P:JH}{w:JL}{A:JW}{E:IT->IX->Prop} in
theorem rg{α:Type}:∀(n:fC) (xs:eZ α) (s:IX) (Q:eZ α->IX->Prop),xs.length=n->(∀ys d,ys.Perm xs->Q ys {s with drawn:=d})->IU (IV P w) A (drawOrder n xs) Q E s
 |0,xs,s,Q,hl,h=>by
  let e:xs=[]:=Ci hl;subst e;exact Al (h [] s.drawn (E9 _))
 |n+1,[],s,Q,hl,h=>by simp at hl
 |n+1,x::r,s,Q,hl,h=>by
  unfold drawOrder;refine Ac (a4o (by rw[hl];exact Nat.succ_ne_zero n) λi d hi=>?_);rw[Ah hi];dsimp only;refine Ac (rg n _ _ _ (by rw[ET hi];lia) λys d' hp=>?_);refine Al (h _ d' ?_);exact(hp.cons _).trans (su _ _ hi)
end
theorem ye:∀l:eZ α,(Bb l.length).filterMap (λi=>l[i]?)=l
 |[]=>rfl
 |x::r=>by
  rw[Au,List.range_succ_eq_map,BN];simp only[List.getElem?_cons_zero];rw[DH];exact fX (x :: ·) (ye r)
def zn(first:IT)(i:fC)(S:IS)(n ep:fC):Obj:={cls:=.type "set_iterator",dict:=eW,data:=.fields [first,.int i 0,.ref S,.int n 0,.int ep 0].toArray,slots := [].toArray}
inductive Ord(w:JL)(S:IS)(es:fY (fB×IT))(ep:fC)(t:SetTable)(h:JG):IT->fC->eZ IT->Prop
 |text (i:fC):w.params.followText "set-order"=eX->Ord w S es ep t h (.int 0 0) i ((pickOrder (w.params.setOrder S ep) es).toList.map (·.2))
 |drawn (i:fC)(T:IS)(ps:eZ fC):w.params.followText "set-order"=eY->IsTup h T (ps.map λ(p:fC)=>Value.int p 0).toArray->(∀p∈ps,p<es.size)->Ord w S es ep t h (.ref T) i (ps.filterMap λp=>(es[p]?).map (·.2))
 |none (k i:fC):w.params.followText "set-order"=eY->es.size=0->Ord w S es ep t h (.int k 0) i []
 |one0 (e:fB×IT):w.params.followText "set-order"=eY->es = [e].toArray->Ord w S es ep t h (.int 0 0) 0 [e.2]
 |one1 (e:fB×IT)(j:fC):w.params.followText "set-order"=eY->es = [e].toArray->t.place = [j].toArray->Ord w S es ep t h (.int (j+1:fC) 0) 1 [e.2]
def ac2(P:JH)(w:JL)(S I T0:IS)(es:fY (fB×IT))(ep:fC)(t:SetTable)(ord:eZ IT)(i:fC)(h:JG):Prop :=
 ∃first o,h.get? I=eV (zn first i S es.size ep)/\h.get? S=eV o/\o.data=.set es ep t/\Ord w S es ep t h first i ord/\∀T,first=.ref T->T=T0
theorem afc(j:fC):EA [j].toArray (j+1)=1:=by
 simp[EA,Hu]
theorem afs(j:fC):EA [j].toArray 0=0:=by
 simp[EA,Hu]
theorem u1(h:Q (w.params.followText "set-order") s):IU (IV P w) A setsByText Q E s:=by
 unfold setsByText;exact Ac (Fm (Al h))
theorem wn{k:fC}(p:s.heap.get? S=eV o)(hd:o.data=.set es ep t)(g:t.fits es.size=eX)(b:t.led = !w.params.followText "set-order")(od:Ord w S es ep t s.heap (.int (k:fB) 0) i d)(h:∀m:fC,(∀v,d[i]?=eV v->Ord w S es ep t s.heap (.int (m:fB) 0) (i+1) d)->Q ((d[i]?).map λv=>(v,m)) s):IU (IV P w) A (setNext S k i ep) Q E s:=by
 unfold setNext;refine Ac (De p hd g ?_);dsimp only;refine Ac (u1 ?_);generalize hk:(k:fB)=q at od;generalize hfst:Value.int q 0=first at od
 cases od with
 |text i ht =>
  cases hfst;obtain rfl:k=0:=by lia
  rw[ht];simp only[if_true,bne_self_eq_false,B9,if_false];unfold setWalk;refine Ac ?_;refine Ac (De p hd g ?_);dsimp only;refine Ac (u1 ?_);rw[ht];simp only[if_true];refine Ac (Fm (Al ?_));refine Al ?_;let:=h 0 λv _=>Ord.text (i+1) ht;rw[Ap,B3] at this;rw[Option.map_map] at this;exact this
 |drawn=>cases hfst
 |none m i ht h0 =>
  cases hfst;rw[ht];let r:es = [].toArray:=Er h0;subst r;let hl:t.led=eX:=by rw[b,ht];rfl
  rw[fD Aw];split;rename_i c;let a:(!t.plain && decide (([].toArray:fY (fB×IT)).size>1))=eX:=c;simp at a
  refine Ac (show IU (IV P w) A (if(!t.led && !([].toArray:fY (fB×IT)).isEmpty)=eX then unsupported "set:maker-not-led" else pure ()) _ _ _ from ?_);rw[hl];refine Al (Al ?_);let:=h k λv e=>by simp at e
  simpa using this
 |one0 e ht he =>
  cases hfst;obtain rfl:k=0:=by lia
  rw[ht];subst he;let hl:t.led=eX:=by rw[b,ht];rfl
  let f:t.place.size=1:=by
   simp only[SetTable.fits,Bv,beq_iff_eq] at g;exact g.1
  obtain⟨j,n⟩:∃j,t.place = [j].toArray:=by
   generalize t.place=pl at f;obtain⟨l⟩:=pl;let(j,rfl):=FJ.mp f;exact#[j,fR]
  rw[fD Aw];split;rename_i c;let a:(!t.plain && decide (([e].toArray:fY (fB×IT)).size>1))=eX:=c;simp at a;refine Ac (show IU (IV P w) A (if(!t.led && !([e].toArray:fY (fB×IT)).isEmpty)=eX then unsupported "set:maker-not-led" else pure ()) _ _ _ from ?_);rw[hl];refine Al (Al ?_);rw[n,afs];exact h (j+1) λv _=>Ord.one1 e j ht rfl n
 |one1 e j ht he hp =>
  cases hfst;obtain rfl:k=j+1:=by lia
  rw[ht];subst he;let hl:t.led=eX:=by rw[b,ht];rfl
  rw[fD Aw];split;rename_i c;let a:(!t.plain && decide (([e].toArray:fY (fB×IT)).size>1))=eX:=c;simp at a;refine Ac (show IU (IV P w) A (if(!t.led && !([e].toArray:fY (fB×IT)).isEmpty)=eX then unsupported "set:maker-not-led" else pure ()) _ _ _ from ?_);rw[hl];refine Al (Al ?_);rw[hp,afc];exact h 0 λv e=>by simp at e
theorem Ord.keep(od:Ord w S es ep t h first i a)(k:∀T o,first=.ref T->h.get? T=eV o->h'.get? T=eV o):Ord w S es ep t h' first i a:=by
 cases od with
 |text i ht=>exact .text i ht
 |drawn i T ps ht hT hp =>
  let(o,e,c):=hT;exact .drawn i T ps ht #[o,k T o rfl e,c] hp
 |none kk i ht h0=>exact .none kk i ht h0
 |one0 e ht he=>exact .one0 e ht he
 |one1 e j ht he hp=>exact .one1 e j ht he hp
theorem Ord.kind(od:Ord w S es ep t h first i a):
 (∃k:fC,first=.int (k:fB) 0)\/∃(T:IS) (ps:eZ fC),first=.ref T/\w.params.followText "set-order"=eY/\IsTup h T (ps.map λ(p:fC)=>Value.int p 0).toArray/\(∀p∈ps,p<es.size)/\a=ps.filterMap λp=>(es[p]?).map (·.2):=by
 cases od with|text i ht=>exact .inl #[0,fR]|drawn i T ps ht hT hp=>exact .inr #[T,ps,fR,ht,hT,hp,fR]|none k i ht h0=>exact .inl #[k,fR]|one0 e ht he=>exact .inl #[0,fR]|one1 e j ht he hp=>exact .inl #[j+1,fR]
theorem Ord.step(od:Ord w S es ep t h (.ref T) i a):Ord w S es ep t h (.ref T) (i+1) a:=by
 cases od with|drawn i T ps ht hT hp=>exact .drawn (i+1) T ps ht hT hp
theorem a1u{es:fY (fB×IT)}:∀{ps:eZ fC},(∀p∈ps,p<es.size)->∀(i:fC),(ps.filterMap λp=>(es[p]?).map (·.2))[i]?=(ps[i]?).bind λp=>(es[p]?).map (·.2)
 |[],_,i=>by simp
 |p::r,hp,i=>by
  let h1:p<es.size:=hp p (by simp);let e:es[p]?=eV es[p]:=by simp[h1]
  rw[BN,e];cases i with|zero=>simp[e]|succ i=>simpa using a1u (λq a=>hp q (Ag _ a)) i
theorem a8g(hh:A.handled=eW)(Y:eZ IS)(hI:I∈Y)(hS:S∈Y)(H:S≠I)(R:t.fits es.size=eX)(G:t.led = !w.params.followText "set-order")(hT:T0∈Y)(aa:T0≠I):
 Walks P w A I Y [I] c.length (λi v=>c[i]?=eV v) (ac2 P w S I T0 es ep t c) where
 sub:=λb n=>by rw[Ae.mp n];exact hI
 frame:=λi h h' st X=>by
  let(first,o,h1,h2,h3,F,M):=st;exact#[first,o,X I hI _ h1,X S hS _ h2,h3,F.keep (λT o e q=>X T (by rw[M T e];exact hT) o q),M]
 item:=λi s Q E hi st N=>by
  let(first,o,h1,h2,h3,F,M):=st;let ty:s.TypeIs (.ref I) "set_iterator" := #[_,h1,fR]
  unfold JM;refine Ac (CP (Bt (name:=BI "__next__") ty SF.slot_next (Bn SF.slot_next ty SF.entry_next ?_ (SF.args_next _))));show IU _ _ (fieldsOf (.ref I)>>=_) _ _ s;refine Ac (EB h1 rfl ?_);show IU _ _ (setEntries S>>=_) _ _ s;refine Ac (E6 h2 h3 R ?_);simp only[bne_self_eq_false,B9,if_false];let hv:c[i]?=eV c[i]:=Ah hi;rcases F.kind with⟨k,rfl⟩|⟨T,ps,rfl,ht,J,u,l⟩
  . show IU _ _ (setNext S (CS (k:fB)) (CS (i:fB)) (CS (ep:fB))>>=_) _ _ s;simp only[Bf];refine Ac (wn h2 h3 R G F λk' W=>?_);rw[hv];show IU _ _ (setField (.ref I) 0 (JU k')>>=_) _ _ s;refine Ac (Bi h1 (by simp) λha y g=>?_);refine Ac (Bi y (by simp) λn B f=>?_);refine Al #[_,fR,Al (N _ n s.toks hv #[.int (k':fB) 0,o,B,?_,h3,(W _ hv).keep (λT o e=>by cases e),(λT e=>by cases e)] λb o j e=>?_)];rw[f.2 S H,g.2 S H];exact h2;let:b≠I:=λz=>j (by simp[z]);rw[f.2 b this,g.2 b this];exact e
  let U:T≠I:=by rw[M T rfl];exact aa
  let D:=a1u u i;rw[<- l,hv] at D;cases d:ps[i]? with
  |none=>rw[d] at D;cases D
  |some p =>
   rw[d] at D;let hp:p<es.size:=u p (Ar d);let C:es[p]?=eV es[p]:=by simp[hp]
   let r:eV c[i]=(es[p]?).map (·.2):=D;rw[C] at r;let O:c[i]=es[p].2:=Am r;show IU _ _ (seqItems? (.ref T)>>=_) _ _ s;let(oT,Z,cT,nT,dT):=J;refine Ac (BX Z dT ?_);dsimp only;let L:((ps.map λ(p:fC)=>Value.int p 0).toArray)[CS (i:fB)]?=eV (.int (p:fB) 0):=by
    rw[Bf,Dh,Ap,d];rfl
   rw[L];show IU _ _ (setNextDrawn S (CS (p:fB)) (CS (ep:fB))>>=_) _ _ s;simp only[Bf];unfold setNextDrawn;refine Ac (Ac (De h2 h3 R ?_));simp only[bne_self_eq_false,B9,if_false];rw[C];refine Al ?_;refine Ac (Bi h1 (by simp) λn B f=>?_);refine Al #[_,fR,Al (N _ n s.toks (by rw[hv,O];rfl) #[.ref T,o,B,?_,h3,F.step.keep (λT' o e q=>?_),M] λb o j e=>?_)];rw[f.2 S H];exact h2;cases e;rw[f.2 T U];exact q;let:b≠I:=λz=>j (by simp[z]);rw[f.2 b this];exact e
 done:=λs Q E st N=>by
  let(first,o,h1,h2,h3,F,M):=st;let ty:s.TypeIs (.ref I) "set_iterator" := #[_,h1,fR]
  let hv:c[c.length]?=eW:=BP (An _);let stop:∀h':JG,(∀b o,b≠I->s.heap.get? b=eV o->h'.get? b=eV o)->IU (IV P w) A.in1 (do raiseNew (<- newExc (.type "StopIteration") []):Sem Fin) (λ_ _=>False)
   (λx s'=>IU (IV P w) A (do let b<-isInstance x (.type "StopIteration");if b=eX then pure Option.none else throw x) Q E s') {s with heap:=h'}:=by
   intro h' X;refine Ac ?_;simp only[newExc,newTuple];refine Ac (AX ?_ (by size_fits));refine Ac (m:=firstArgMember _ _) (FI (a:=Value.none) (by first|rfl|(simp only[firstArgMember];rfl)) ?_);refine AX ?_ (by size_fits);simp only[raiseNew];refine Ac (wpAny_handled ?_);rw[show A.in1.handled=eW from hh];refine Ac (Al (wpAny_throw ?_));refine Ac (Ds (T := "StopIteration") (b:=eX) #[_,Ay _ rfl,fR] EC ?_);exact Al (N _ _ λb o n e=>Ai _ (Ai _ (X b o (λz=>n (by simp[z])) e)))
  unfold JM;refine Ac (CP (Bt (name:=BI "__next__") ty SF.slot_next (Bn SF.slot_next ty SF.entry_next ?_ (SF.args_next _))));show IU _ _ (fieldsOf (.ref I)>>=_) _ _ s;refine Ac (EB h1 rfl ?_);show IU _ _ (setEntries S>>=_) _ _ s;refine Ac (E6 h2 h3 R ?_);simp only[bne_self_eq_false,B9,if_false];rcases F.kind with⟨k,rfl⟩|⟨T,ps,rfl,ht,J,u,l⟩
  . show IU _ _ (setNext S (CS (k:fB)) (CS (c.length:fB)) (CS (ep:fB))>>=_) _ _ s;simp only[Bf];refine Ac (wn h2 h3 R G F λk' W=>?_);rw[hv];show IU _ _ (setField (.ref I) 2 .none>>=_) _ _ s;refine Ac (Bi h1 (by simp) λha y g=>?_);refine B2 (stop ha λb o n e=>by rw[g.2 b n];exact e) (λ_ _ z=>z.elim) λx s' z=>?_;exact z
  let d:ps[c.length]?=eW:=by
   let D:=a1u u c.length;rw[<- l,hv] at D;cases d:ps[c.length]? with
   |none=>rfl
   |some p =>
    rw[d] at D;let hp:p<es.size:=u p (Ar d);let C:es[p]?=eV es[p]:=by simp[hp]
    let r:(eW:fA IT)=(es[p]?).map (·.2):=D;rw[C] at r;cases r
  show IU _ _ (seqItems? (.ref T)>>=_) _ _ s;let(oT,Z,cT,nT,dT):=J;refine Ac (BX Z dT ?_);dsimp only;let L:((ps.map λ(p:fC)=>Value.int p 0).toArray)[CS (c.length:fB)]?=eW:=by
   rw[Bf,Dh,Ap,d];rfl
  rw[L];show IU _ _ (setField (.ref I) 0 (JU 0)>>=_) _ _ s;refine Ac (Bi h1 (by simp) λha y g=>?_);refine Ac (Bi y (by simp) λn B f=>?_);refine B2 (stop n λb o j e=>by rw[f.2 b j,g.2 b j];exact e) (λ_ _ z=>z.elim) λx s' z=>?_;exact z
 self:=λi s Q E st N=>by
  let(first,o,h1,h2,h3,F,M):=st;let ty:s.TypeIs (.ref I) "set_iterator" := #[_,h1,fR]
  refine Fd ty SF.slot_self (Bn SF.slot_self ty SF.entry_self ?_ (SF.args_self _));show IU _ _ (ret (.ref I)) _ _ s;exact Al #[_,fR,"set_iterator",_,ty,SF.slot_next.lookup,N]
theorem a23(hS:SSet P w s.heap S R)(h:∀(h':JG) (d':Drawn) (I:IS) (U:eZ IS) (a:eZ IT) (St:fC->JG->Prop),(∀b o,s.heap.get? b=eV o->h'.get? b=eV o)->s.heap.objs.size<=I->I∈U->(∀b∈U,b<h'.objs.size/\(b=S\/s.heap.objs.size<=b))->
 (∀J:JW,J.handled=eW->Walks P w J I U [I] a.length (λi v=>a[i]?=eV v) St)->St 0 h'->(∃ys,StrsAre a ys/\ys.Perm R)->Q (.ref I) {s with heap:=h',drawn:=d'}):
 IU (IV P w) A (pyIter (.ref S)) Q E s:=by
 let(o,es,ep,t,k,L,hd,ac,j,ae,Z,z,C,O):=hS;let ty:s.TypeIs (.ref S) "set" := #[o,k,L.1]
 let n:S<s.heap.objs.size:=Az k;let f:∀l:eZ (fB×IT),(∀e∈l,e∈es.toList)->StrsAre (l.map (·.2)) (l.map λe=>mu e.2):=by
  intro l;induction l with
  |nil=>intro _;exact .nil
  |cons e r ih =>
   intro hm;let(u,hu):=yb ac (hm e (by simp));let:=StrsAre.cons (mu e.2) u (ih λx W=>hm x (Ag _ W));rw[<- hu] at this;exact this
 refine Fd ty FW (Bn FW ty SF.entry_set_iter ?_ (PySem.F.args_set_iter_1 _));show IU _ _ (Fn S>>=_) _ _ s;unfold Fn;refine Ac (Ac (E6 k hd z (Al ?_)));unfold setDrawn;refine Ac (Ac (De k hd z ?_));dsimp only;refine Ac (u1 (Al ?_));let make:∀(first:IT) (m:IS) (a:eZ IT) (h1:JG) (H:Drawn),(∀b ob,s.heap.get? b=eV ob->h1.get? b=eV ob)->s.heap.objs.size<=h1.objs.size->(∀T,first=.ref T->T=m)->m<h1.objs.size->(m=S\/s.heap.objs.size<=m)->Ord w S es ep t h1 first 0 a->(∃ys,StrsAre a ys/\ys.Perm R)->
  Q (.ref h1.objs.size) {s with heap:=h1.push (zn first 0 S es.size ep),drawn:=H}:=by
  intro first m a h1 H hk hsz hT D aa od g
  let M:S≠h1.objs.size:=AB (AD n hsz);let ab:(h1.push (zn first 0 S es.size ep)).objs.size=h1.objs.size+1:=B1 ..;refine h _ H h1.objs.size [h1.objs.size,S,m] a (ac2 P w S h1.objs.size m es ep t a) (λb ob e=>Ai _ (hk b ob e)) hsz (by simp) (λb Z=>?_) (λJ hA=>?_) #[first,o,Ay _ rfl,Ai _ (hk S o k),hd,od.keep (λT ob _ e=>Ai _ e),hT] g
  . rw[ab];let X:b=h1.objs.size\/b=S\/b=m:=by simpa using Z
    rcases X with rfl|rfl|rfl;exact#[BB _,.inr hsz];exact#[C0 (AD n hsz),.inl rfl];exact#[C0 D,aa]
  exact a8g hA _ (by simp) (by simp) M z C (by simp) (AB D)
 let c:∀(a:eZ IT),Ord w S es ep t s.heap (.int 0 0) 0 a->(∃ys,StrsAre a ys/\ys.Perm R)->Q (.ref s.heap.objs.size) {s with heap:=s.heap.push (zn (.int 0 0) 0 S es.size ep)}:=λa od g =>
  make (.int 0 0) S a s.heap s.drawn (λ_ _ e=>e) (An _) (λT e=>by cases e) n (.inl rfl) od g
 cases hbt:w.params.followText "set-order" with
 |true =>
  simp only[Bool.not_true,Il,B9,if_false];refine Ac (Al (Ac (Fe k hd z ?_)));refine Ac (AX (Al #[_,fR,"set_iterator",_,#[_,Ay _ rfl,fR],SF.slot_next.lookup,?_]));refine c _ (.text 0 hbt) #[_,f _ (λe q=>(yr _ es).mem_iff.mp q),?_];rw[<- j];exact(yr _ es).map _
 |false =>
  show IU _ _ (if(!false && (!t.plain && decide (es.size>1)))=eX then _ else _) _ _ s;by_cases h2:es.size>1
  . let Y:t.plain=eY:=O (by lia);rw[fE (by simp[Y,h2])];refine Ac (rg es.size (Bb es.size) s _ (by simp) λps d y=>?_);let G:ps.length=es.size:=by rw[y.length_eq,B6]
    refine Ac (AX ?_ ?_)
    . refine(Ac (Fe (s:={s with heap:=s.heap.push _,drawn:=d}) (Ai _ k) hd z ?_));refine Ac (AX (Al #[_,fR,"set_iterator",_,#[_,Ay _ rfl,fR],SF.slot_next.lookup,?_]));let N:∀p∈ps,p<es.size:=λp hp=>Br.mp (y.mem_iff.mp hp);refine make (.ref s.heap.objs.size) s.heap.objs.size (ps.filterMap λp=>(es[p]?).map (·.2)) (s.heap.push _) d (λb ob e=>Ai _ e) (by rw[B1];exact DW _) (λT e=>by cases e;rfl) (by rw[B1];exact BB _) (.inr (An _))
       (.drawn 0 _ ps hbt #[_,Ay _ rfl,fR,_,fR] N) ?_
      let e1:(ps.filterMap λp=>(es[p]?).map (·.2))=(ps.filterMap λp=>es[p]?).map (·.2):=by rw[List.map_filterMap]
      let B:(ps.filterMap λp=>es[p]?).Perm es.toList:=by
       let:=y.filterMap (λp=>es[p]?);let e2:=ye es.toList;simp only[B3,AC] at e2;rw[e2] at this;exact this
      refine#[_,by rw[e1];exact f _ (λe q=>B.mem_iff.mp q),?_];rw[<- j];exact B.map _
    let hz:ps.length<=IR:=by rw[G];exact Fc Z
    show(ps.map _).toArray.size<=IR;rw[A0,Ad];exact hz
  rw[fD (by simp[h2])];refine Ac (Al (Ac (Fe k hd z ?_)));refine Ac (AX (Al #[_,fR,"set_iterator",_,#[_,Ay _ rfl,fR],SF.slot_next.lookup,?_]));by_cases h1:es.size=0;refine c [] (.none 0 0 hbt h1) #[[],.nil,?_];rw[<- j,Er h1];exact E9 _
  obtain⟨e,q⟩:∃e,es = [e].toArray:=by
   obtain⟨l⟩:=es;let hl:l.length=1:=by
    let a1:¬ l.length>1:=h2;let a2:¬ l.length=0:=h1
    lia
   let(e,rfl):=FJ.mp hl;exact#[e,fR]
  refine c [e.2] (.one0 e hbt q) #[[mu e.2],f [e] (λx W=>by rw[q];exact W),?_];rw[<- j,q];exact E9 _
theorem a08(hh:A.handled=eW)(hS:SSet P w s.heap S O)(hl:O.length<=IR)(h:∀(h':JG) (d':Drawn) (tk:fC) (c:eZ IT) (ys:fJ),(∀b o,s.heap.get? b=eV o->h'.get? b=eV o)->s.heap.objs.size<=h'.objs.size->StrsAre c ys->ys.Perm O->Q c {s with heap:=h',drawn:=d',toks:=tk}):
 IU (IV P w) A (collect (.ref S)) Q E s:=by
 let(o,es,ep,t,U,B,hd,aa):=id hS;let L:S<s.heap.objs.size:=Az U;unfold collect;refine Ac (wpAny_runValue (Cf entry_proto_collect' ?_));rw[BW PySem.F.plain_proto_collect _];show IU _ A.in1 (newList []>>=λl=>again (.builtin "list.__iadd__" #[[l,.ref S],[]])) _ _ s;refine Ac (AX ?_);refine Al #[CO Fw _,Cf entry_list_iadd' ?_];rw[BW Fw _];generalize hH:s.heap.push {cls:=.type "list",data:=.seq ([]:eZ IT).toArray}=H;let m:H.objs.size=s.heap.objs.size+1:=by rw[<- hH,B1]
 let old:∀b ob,s.heap.get? b=eV ob->H.get? b=eV ob:=λb ob e=>by rw[<- hH];exact Ai _ e
 let X:SSet P w H S O:=hS.at λo e=>old S o e;let hD:H.get? s.heap.objs.size=eV {cls:=.type "list",data:=.seq [].toArray}:=by rw[<- hH];exact Ay _ rfl
 show IU _ A.in1 (EM (.ref s.heap.objs.size) (.ref S) (.ref s.heap.objs.size)) _ _ {s with heap:=H};unfold EM;refine Ac (Eo (T := "set") (v:=.ref S) (show Gw {s with heap:=H} (.ref S) "set" from#[o,old S o U,B.1]) ?_);let h1:Fo (.ref s.heap.objs.size) (.ref S)=eY:=by simp[Fo,BQ L]
 let h2:(Value.type "set"==Value.type "list")=eY:=by decide
 let h3:(Value.type "set"==Value.type "tuple")=eY:=by decide
 simp only[h1,h2,h3,Iw,B9,if_false];refine Ac (a23 (s:={s with heap:=H}) X λh' d' I fp c St hk hI ai ah W st zq=>?_);let(ys,M,hp):=zq;let j:Gw {s with heap:=h',drawn:=d'} (.ref S) "set" := #[o,hk S o (old S o U),B.1]
 refine Ac (BH ?_);unfold Builtin.List.listLengthHint;refine Ac (Es (T := "set") (v:=.ref S) j SF.set_len ?_)
 wp_delta
 refine Ac (Ds (T := "set") (v:=.ref S) (b:=eX) j SF.sub_set ?_);show IU _ A.in1 (typeOf (Value.ref S)>>=_) _ _ _;refine Ac (Eo (T := "set") (v:=.ref S) j ?_);refine Al ?_;let aj:s.heap.objs.size≠I:=λz=>by
  let:H.objs.size<=I:=hI;rw[m] at this
  lia
 let J:s.heap.objs.size∉fp:=λn=>by
  rcases(ah _ n).2 with z|z;exact fF z (BQ L)
  let:H.objs.size<=s.heap.objs.size:=z;rw[m] at this
  lia
 let N:c.length=O.length:=by
  let a1:c.length=ys.length:=M.length;rw[a1,hp.length_eq]
 let key:∀(h1:JG) (k:fC),St 0 h1->(∀b ob,b≠s.heap.objs.size->h'.get? b=eV ob->h1.get? b=eV ob)->h1.get? s.heap.objs.size=eV {cls:=.type "list",data:=.seq [].toArray k}->
  JS (IV P w) A (.builtin "list.extend.loop" #[[.ref s.heap.objs.size,.ref I,.ref s.heap.objs.size],[]])
   (λr s'=>r=.ok (.ret (.ref s.heap.objs.size))/\∃a d,s'.heap.get? s.heap.objs.size=eV {cls:=.type "list",data:=.seq a d}/\Q a.toList s') {s with heap:=h1,drawn:=d'}:=by
  intro h1 k ag ab Y;refine codeAny_extend_loopS (W A.in1 hh).toS (by rw[N];exact hl) _ J _ c.length 0 _ [].toArray k rfl (AF _) ag Y (ItemsOf.nil _) λs' a d hm y f=>?_;exists rfl,a,d,y;let q:a.toList=c:=by
   refine Hv λi=>?_;rw[B3];by_cases hi:i<a.size
   . let e:a[i]?=eV a[i]:=by simp[hi]
     rw[e,f.2 i _ e]
   let ac:c.length<=i:=by let:=f.1;lia
   rw[BP ac];simp;lia
  let Z:s'={s with heap:=s'.heap,drawn:=d',toks:=s'.toks}:=Moved.eq_with hm;rw[q,Z];refine h s'.heap d' s'.toks c ys (λb ob e=>?_) (B7 (Az y)) M hp;let G:b≠s.heap.objs.size:=AB (Az e);let af:b≠I:=λz=>by
   let hz:H.objs.size<=b:=by rw[z];exact hI
   rw[m] at hz;exact AZ _ (AD (C0 (Az e)) hz)
  exact hm.heap b ob (by simp[G,af]) (ab b ob G (hk b ob (old b ob e)))
 let g:h'.get? s.heap.objs.size=eV {cls:=.type "list",data:=.seq [].toArray}:=hk _ _ hD;let p:∀(h1:JG) (k:fC),St 0 h1->(∀b ob,b≠s.heap.objs.size->h'.get? b=eV ob->h1.get? b=eV ob)->h1.get? s.heap.objs.size=eV {cls:=.type "list",data:=.seq [].toArray k}->∀(R:Result->IX->Prop),
  (∀s' a d,s'.heap.get? s.heap.objs.size=eV {cls:=.type "list",data:=.seq a d}->Q a.toList s'->R (.ok (.ret (.ref s.heap.objs.size))) s')->
  JS (IV P w) A (.builtin "list.extend.loop" #[[.ref s.heap.objs.size,.ref I,.ref s.heap.objs.size],[]]) R {s with heap:=h1,drawn:=d'}:=by
  intro h1 k a1 a2 a3 R hR;refine Dg (key h1 k a1 a2 a3) λr s' zq=>?_;let(e,a,d,C,u):=zq;subst e;exact hR s' a d C u
 let last:∀(R:Result->IX->Prop),R=R->True:=λ_ _=>trivial;refine wpAny_ite_split (λ_=>?_) (λ_=>Al #[CO Fh _,p h' 0 st (λb ob _ e=>e) g _ λs' a d C u=>?_]);refine Ac (CQ ?_);refine Ac ?_;show IU _ _ (updateSeq s.heap.objs.size (·.push .none)>>=λ_=>updateSeq s.heap.objs.size (·.pop)) _ _ _;refine Ac (wpAny_updateSeq g rfl ?_);let D:=BG (DP (·.push Value.none)) g rfl;refine wpAny_updateSeq (hz:=by seq_fits) D rfl ?_;let ae:=BG (DP (·.pop)) D rfl;refine Al #[CO Fh _,p _ _ ?_ (λb ob n e=>?_) ae _ λs' a d C u=>?_];refine(W A.in1 hh).frame 0 _ _ st λb n o e=>?_;let x:b≠s.heap.objs.size:=λz=>J (z ▸ n);exact(BZ _ _ (AE x)).trans ((BZ _ _ (AE x)).trans e);exact(BZ _ _ (AE n)).trans ((BZ _ _ (AE n)).trans e);show IU _ A (load s.heap.objs.size>>=_) _ _ _;exact Ac (HV C (Al u))
 show IU _ A (load s.heap.objs.size>>=_) _ _ _;exact Ac (HV C (Al u))
theorem a1x(x:A.handled=eW)(y:SSet P w s.heap S p)(n:p.length<64)(h:∀(h':JG) (d':Drawn) (tk:fC) (l:IS) (vs:eZ IT) (zs:fJ) (e:fC),(∀b o,s.heap.get? b=eV o->h'.get? b=eV o)->s.heap.objs.size<=l->h'.get? l=eV {cls:=.type "list",data:=.seq vs.toArray e}->StrsAre vs zs->zs.Perm p->sortedS zs=eX->
 Q (.ref l) {s with heap:=h',drawn:=d',toks:=tk}):
 IU (IV P w) A (call (.builtin "sorted") [.ref S]) Q E s:=by
 refine Calls.call_function_entry kind_sorted plain_sorted entry_sorted (args_sorted1 _) ?_;unfold Builtin.«sorted»;refine Ac (m:=checkCount "sorted" 1 1 _) (Al ?_);refine Ac (a08 (A:=A.in1) (show A.in1.handled=eW from x) y (by rw[D3];lia) λh1 r k a ys j i c f=>?_);let hn:a.length<64:=by
  let:a.length=ys.length:=c.length;rw[this,f.length_eq];exact n
 refine Ac (wpAny_newList ?_ (by rw[D3];lia));let d:(h1.push (seqObj "list" a.toArray 0)).get? h1.objs.size=eV (seqObj "list" a.toArray 0):=Ay _ rfl;show IU _ _ _ _ _ {s with heap:=h1.push (seqObj "list" a.toArray 0),drawn:=r,toks:=k};refine Ac (BH (Bn slot_list_sort #[_,d,fR] entry_list_sort (list_sort_treeK strKind_oneLt d c.keysOf (λG F rest e=>keyKind_strs (by rw[<- e];exact c)) hn λg v z=>#[_,fR,?_]) (args_list_sort _)));let(zs,u,D,B):=sorted_out_str c v z;refine Al #[_,fR,?_];let(e,C):=sortedHeap_at (out:=(arrOf g).map (·.2)) d;refine h _ r k h1.objs.size ((arrOf g).map (·.2)).toList zs e (λb o q=>?_) i C u (D.trans f) B;let t:=Az (j b o q);rw[sortedHeap_old (AB t) (by rw[B1];exact C0 t)];exact Ai _ (j b o q)
def SetO(P:JH)(w:JL)(a:IS)(ss:fJ):HO:=.ext λh=>SSet P w h a ss
theorem yg:∀{xs:fJ}{us:eZ IT},Vals (xs.map V.str) us->StrsAre us xs
 |[],_,h=>by cases h;exact .nil
 |x::r,_,h=>by
  cases h with|cons h1 h2=>let(t,rfl):=h1;exact .cons x t (yg h2)
theorem yp:∀{us:eZ IT}{xs:fJ},StrsAre us xs->Vals (xs.map V.str) us
 |_,_,.nil=>.nil
 |_,_,.cons x t r=>.cons #[t,fR] (yp r)
theorem a1i(l:X.calm=eX):kb X (.type "set") (λvs H Q=>∃(a:IS) (xs:fJ),vs=[.ref a]/\SqL X.K H a (xs.map V.str)/\xs.length+1<scanBound/\
 ∀p c,H p=eW->Dd xs c->Q (.ref p) (upd H p (SetO X.prog X.w p c))):=by
 intro d s σ H vs us Q I r h;let(a,xs,rfl,j,hz,q):=h;let(u,rfl,m):=r.one;cases m;let(its,t,p,_):=I.list j;let f:=yg t;let hl:its.length=xs.length:=f.length;refine zk (I.ok.hd l) p.isList (by simpa using f) (by rw[A0,hl];exact hz) λh' tk c g hd n=>?_;let fr:H s.heap.objs.size=eW:=I.hok.fresh (An _);refine#[.ref s.heap.objs.size,upd H s.heap.objs.size (SetO X.prog X.w s.heap.objs.size c),I.laid (t':=tk) (λb o e=>n b o (Az e) e) (An _) #[g,?_,λh1 h2 h3 k=>?_],fR,q _ c fr hd];let(o,_,_,_,i,_):=g;exact#[o,i];exact SSet.at h3 k
theorem qd(m:X.calm=eX):kb X (.builtin "sorted") (λvs H Q=>∃(a:IS) (c:fJ),vs=[.ref a]/\H a=eV (SetO X.prog X.w a c)/\c.length<64/\
 ∀p zs,H p=eW->zs.Perm c->sortedS zs=eX->Q (.ref p) (upd H p (.lst (zs.map V.str)))):=by
 intro i s σ H vs us Q I r h;let(a,c,rfl,k,hz,q):=h;let(u,rfl,n):=r.one;cases n;let x:SSet X.prog X.w s.heap a c:=(I.hok a _ k).1;refine a1x (I.ok.hd m) x hz λh' d' tk l t zs e j hl d v hp f=>?_;let fr:H l=eW:=I.hok.fresh hl;let y:zs.length<64:=by rw[hp.length_eq];exact hz
 let g:HOk X.prog X.w (upd H l (.lst (zs.map V.str))) h':=I.hok.laid (a:=l) (o:=.lst (zs.map V.str)) j hl #[by rw[Ad];exact B7 (kt (by lia)),t,e,yp v,d];let un:Un (frs X.stack) [] H (upd H l (.lst (zs.map V.str))) s.heap h':=Un.laid j hl fr;exact#[.ref l,_,I.call (g':=s.gens) (d':=d') (t':=tk) (ch:=[]) un g I.bare (λb z=>fF z (by simp)),fR,q l zs fr hp f]
def CXE(P:JH)(w:JL)(base:JG):CXT:=λouter H s E e s' =>
 ∃(a:IS) (cls a0:IT) (H':Hp) (B:JG),e=.ref a/\s'.os=s.os/\AllBare s'.gens/\Un (frs outer) [] H H' s.heap s'.heap/\HOk P w H' s'.heap/\H' a=eW/\s.heap.get? a=eW/\
   Heap.FlyingW B outer a cls a0 s'.heap/\(∀b o,s.heap.get? b=eV o->H b=eW->b∉frs outer->B.get? b=eV o)/\(∀b u,H' b=eV u->∀o,s'.heap.get? b=eV o->B.get? b=eV o)/\
   (∀b o,s.heap.get? b=eV o->b∉frs outer->∃o',B.get? b=eV o')/\E cls eW H'
theorem ObjOk.there(x:ObjOk P w H h a o):∃ob,h.get? a=eV ob:=by
 cases o with|lst xs=>let(_,_,_,_,e):=x;exact#[_,e]|tup xs=>let(_,_,_,o,e,_):=x;exact#[_,e]|dK kvs=>let(_,_,_,_,o,_,_,e,_):=x;exact#[_,e]|dT kvs=>let(_,_,_,_,o,_,_,e,_):=x;exact#[_,e]|set S n=>let(o,_,_,_,e,_):=x;exact#[_,e]|ins C dx fs=>let(_,_,_,e,_):=x;exact#[_,e]|own y=>let(_,e):=x;exact#[_,e]|xd fs=>let(_,(_,_,_,e,_),_):=x;exact#[_,e]|rng lo hi=>let(_,_,_,e):=x;exact#[_,e]|frz ob u=>let(e,_):=x;exact#[_,e]|tbl ps=>exact#[_,(show h.get? a=eV _ from x)]|met f y=>exact#[_,(show h.get? a=eV _ from x)]|ext φ=>let(_,e,_):=x;exact e
theorem HOk.stays{B:JG}(ok:HOk P w H h)(d:∀b u,H b=eV u->∀o,h.get? b=eV o->B.get? b=eV o)(st:B.StaysIn h'):HOk P w H h':=λa o e =>
 (ok a o e).stay (λb u c q=>by
  rcases c with rfl|c;exact st b u (d b o e u q)
  exact st b u (d b _ c u q)) (λ_ q=>q) λ_ _ q=>q
theorem a3j{K:Aa}(hk:scope.kind=.function):la (CXE P w base) (cxOf (CXE P w base) P w K mg base N d scope f r A outer s₀ H₀ E) E:=by
 intro T σ H s e s' I c;let(a,cls,Y,H',B,rfl,M,l,un,hok,R,hsz,fl,old,trk,t,hE):=c;let ab:s₀.heap.objs.size<=s.heap.objs.size:=I.sz;show IU (IV P w) (A.deeper (envOfC d scope s₀.heap.objs.size f r)) (leaving (envOfC d scope s₀.heap.objs.size f r) (.ref a)) _ _ s';refine wpAny_leaves_onW (L:=s₀.heap.objs.size) (I.ok.frames) rfl fl λh' y sm=>?_;let st:B.StaysIn h':=y.1;let C:s₀.heap.get? a=eW:=by
  cases q:s₀.heap.get? a with
  |none=>rfl
  |some o =>
   let(X,U):=I.base.there a o q (λz=>fF (show a∈([]:eZ IS) from z) (by simp));rw[hsz] at U;cases U
 let nofr:∀b o,s₀.heap.get? b=eV o->b∉frs outer->b∉frs (cxOf (CXE P w base) P w K mg base N d scope f r A outer s₀ H₀ E).stack:=λb o e g z=>by
  rcases Ak.mp (I.stkSub b z) with q|q;let:b=s₀.heap.objs.size:=q;exact fF (Az e) (by rw[this];exact AZ _);exact g q
 let h:∀b,b∉(cxOf (CXE P w base) P w K mg base N d scope f r A outer s₀ H₀ E).ex:=λb z=>fF (show b∈([]:eZ IS) from z) (by simp);let v:∀b o,s₀.heap.get? b=eV o->H₀ b=eW->b∉frs outer->B.get? b=eV o:=λb o e n g=>old b o (I.base.keep b o e n g (h b)) (I.base.free b o e n (h b)) (nofr b o e g);let slots:∀b o,s₀.heap.get? b=eV o->H₀ b=eW->b∈frs outer->∃F,h'.get? b=eV {o with slots:=F}:=λb o e n g=>by
  let(F,m):=I.base.slot b o e n g (h b);let D:b∈frs (cxOf (CXE P w base) P w K mg base N d scope f r A outer s₀ H₀ E).stack:=by
   show b∈ED (·.frame) (envOfC d scope s₀.heap.objs.size f r::outer);exact Cc.mpr (by
    let(x,hx,hf):=Cc.mp g;exact#[x,Ag _ hx,hf])
  let(aa,k):=un.slot b _ m (I.base.free b o e n (h b)) D (by simp);let Q:∀vs,o.data≠.fields vs:=by
   let(_,X,i,O):=I.ok.funs.mem g;let j:s₀.heap.get? b=eV X:=i;rw[e] at j;cases j;exact O
  let(J,e3):=sm b _ k (by intro vs z;exact Q vs z);exact#[J,e3]
 refine#[a,cls,Y,H',B,fR,M.trans I.os,l,#[λb o e n g _=>st b o (v b o e n g),λb o e n g _=>?_,λb o e n _=>un.free b _ (Classical.choose_spec (I.base.there b o e (h b))) (I.base.free b o e n (h b)) (by simp),λb o e _=>?_,λb xs e=>un.tups b xs (I.base.tups b xs e),λb o xs e=>un.frzs b o xs (I.base.frzs b o xs e),λb ps e=>?_],
  HOk.stays hok trk st,R,C,y,v,λb u e o Z=>?_,λb o e g=>?_,hE]
 . exact slots b o e n g
 . let(p,m):=I.base.there b o e (h b);by_cases g:b∈frs outer;let(F,k):=slots b o e (I.ok.frf b g) g;exact#[_,k];let(S,k):=t b p m (nofr b o e g);exact#[S,st b S k]
 . let(m1,m):=I.base.tbls b ps e;let(m2,k):=un.tbls b _ m;exact#[m1++m2,by rw[k,Hd]]
 . let h1:=(hok b u e).lt;let(p,G):=(hok b u e).there;let h3:=trk b u e p G;let h4:=st b p h3;let i:h'.get? b=eV o:=Z;rw[h4] at i;cases i;exact h3
 let(p,m):=I.base.there b o e (h b);exact t b p m (nofr b o e g)
def a1q(X:Cx)(E:XK):Prop:=∀(pins:eZ (IS×Obj)) (σ:St) (H:Hp) (s:IX) (h':JG) (e:IS) (cls:IT) (vs:eZ IT),Inv X pins σ H s->Heap.MadeExcOf s.heap h' e cls vs->E cls eW H->X.xe (.ref e) {s with heap:=h'}
theorem aa9(e:(Cs h as).get? b=eV o):h.get? b=eV o/\b∉as:=by
 refine#[Hb _ e,λhm=>?_];rw[Gc as hm] at e;cases e
theorem a7i{K:Aa}:a1q (cxOf (CXE P w base) P w K mg base N a scope f d A outer s₀ H₀ E) E:=by
 intro T σ H s h' e cls vs I mk Z;let j:s.heap.get? e=eW:=mk.new;let stack:(cxOf (CXE P w base) P w K mg base N a scope f d A outer s₀ H₀ E).stack=envOfC a scope s₀.heap.objs.size f d::outer:=rfl;let B:∀env∈(envOfC a scope s₀.heap.objs.size f d::outer),∀b,env.frame=eV b->b∈frs (envOfC a scope s₀.heap.objs.size f d::outer):=λenv he b c=>Cc.mpr #[env,he,c];let G:∀b∈frs (envOfC a scope s₀.heap.objs.size f d::outer),H b=eW:=λb c=>I.stkFree b c;let g:∀b,b∉(cxOf (CXE P w base) P w K mg base N a scope f d A outer s₀ H₀ E).ex:=λb z=>fF (show b∈([]:eZ IS) from z) (by simp);let x:s₀.heap.get? e=eW:=by
  cases q:s₀.heap.get? e with
  |none=>rfl
  |some o =>
   let(v,r):=I.base.there e o q (g e);rw[j] at r;cases r
 let M:H e=eW:=by
  cases q:H e with
  |none=>rfl
  |some u =>
   let(v,r):=(I.hok e u q).there;rw[j] at r;cases r
 show IU (IV P w) (A.deeper (envOfC a scope s₀.heap.objs.size f d)) (leaving (envOfC a scope s₀.heap.objs.size f d) (.ref e)) _ _ {s with heap:=h'};refine wpAny_leaves_madeW (s:={s with heap:=h'}) (base:=Cs s.heap (frs (envOfC a scope s₀.heap.objs.size f d::outer))) (h:=s.heap) (L:=s₀.heap.objs.size) I.ok.frames rfl (λb o q=>(aa9 q).1)
  (PySem.W.funFrames_hide I.stack B) mk λh2 t fl tup tn sm=>?_
 let st:(Cs s.heap (frs (envOfC a scope s₀.heap.objs.size f d::outer))).StaysIn h2:=fl.1;let nofr:∀b o,s₀.heap.get? b=eV o->b∉frs outer->b∉frs (envOfC a scope s₀.heap.objs.size f d::outer):=λb o q c z=>by
  rcases Ak.mp (I.stkSub b z) with p|p;let:b=s₀.heap.objs.size:=p;exact fF (Az q) (by rw[this];exact AZ _);exact c p
 let trk:∀b u,H b=eV u->∀o,s.heap.get? b=eV o->(Cs s.heap (frs (envOfC a scope s₀.heap.objs.size f d::outer))).get? b=eV o:=λb u q o C=>D8 _ C λz=>by
  rw[G b z] at q;cases q
 let m:∀b o,s₀.heap.get? b=eV o->H₀ b=eW->b∉frs outer->(Cs s.heap (frs (envOfC a scope s₀.heap.objs.size f d::outer))).get? b=eV o:=λb o q n c =>
  D8 _ (I.base.keep b o q n c (g b)) (nofr b o q c)
 let slots:∀b o,s₀.heap.get? b=eV o->H₀ b=eW->b∈frs outer->∃Q,h2.get? b=eV {o with slots:=Q}:=λb o q n c=>by
  let(Q,J):=I.base.slot b o q n c (g b);let R:∀vs,o.data≠.fields vs:=by
   let(_,v,i,F):=I.ok.funs.mem c;let k:s₀.heap.get? b=eV v:=i;rw[q] at k;cases k;exact F
  let(D,X):=sm b _ (mk.keeps b _ J) (by intro vs z;exact R vs z);exact#[D,X]
 let l:∀b o,s₀.heap.get? b=eV o->b∉frs outer->∃v,(Cs s.heap (frs (envOfC a scope s₀.heap.objs.size f d::outer))).get? b=eV v:=λb o q c=>by
  let(y,J):=I.base.there b o q (g b);exact#[y,D8 _ J (nofr b o q c)]
 refine#[e,cls,.ref t,H,_,fR,I.os,I.bare,#[λb o q n c _=>st b o (m b o q n c),λb o q n c _=>slots b o q n c,λb o q n _=>I.base.free b o q n (g b),λb o q _=>?_,I.base.tups,I.base.frzs,I.base.tbls],
  HOk.stays I.hok trk st,M,x,fl,m,λb u q o C=>?_,l,Z]
 . by_cases c:b∈frs outer;let(Q,O):=slots b o q (I.ok.frf b c) c;exact#[_,O];let(U,O):=l b o q c;exact#[U,st b U O]
 let(y,S):=(I.hok b u q).there;let h3:=trk b u q y S;let Y:=st b y h3;let i:h2.get? b=eV o:=C;rw[Y] at i;cases i;exact h3
theorem adn{K:Aa}(X:K.In h)(q:Dx K C e b=eX):
 ∃bm N nm q bs hdct sn sub ab col dd k0 k1 k2 k3 k5 mN,h.get? C=eV (excClassObj nm q C N bs bm hdct sn sub ab col dd k0 k1 k2 k3 k5 b)/\h.Ns N mN/\mN "__init__"=eW/\OwnTail h e bm:=by
 unfold Dx at q;split at q
 . rename_i dd o g k;split at q
   . rename_i p bm k0 k1 k2 k3 n k5 hm f;simp only[Bv,beq_iff_eq,Bool.not_eq_true'] at q;let(((((rfl,rfl),a),j),hok),c):=q;let(nm,bs,mro,ns,i,hd,sn,sub,ab,col,m):=o;dsimp only at hm a hok c;subst hm a;let d:g = [k0,k1,k2,k3,eV (.builtin n),k5].toArray:=by
      obtain⟨l⟩:=g;simp only at f;rw[f]
     subst d;exact#[bm,ns,nm,i,bs,hd,sn,sub,ab,col,dd,k0,k1,k2,k3,k5,_,X _ _ k,.of_isNs (PySem.W.isNs_of_in X hok),PySem.W.nsMap_none_of_in X hok c,PySem.W.tail_of_in X j]
   cases q
 cases q
def a5e(C:IS)(E:XK)(t:TA):TS:=λ_ σ H=>t σ H λvs H1=>vs.length<=IR/\E (.ref C) eW H1
theorem abb(u:a1q X E)(o:X.calm=eX)(FB:ExcBaseFacts B c f g)(p:Gl X x)(hm:X.mg x=eV (.ref C))(n:Dx X.K C g c=eX)(F:PA X (e::es) t)(l:autoParam ((x==("__debug__":fS))=eY) a1_)(m:autoParam (IW (e::es) X.env=(eY,eval e X.env)::IW es X.env) a4_)(j:autoParam ((JF a (IW es X.env)).any (·.1)=eY) a4_):
 PS X (.Raise (eV (.Call (.Name x L) (e::es) [] a)) eW pos) (a5e C E t):=by
 intro b s σ H D I h;let(w,N,nm,q,bs,hdct,sn,sub,ab,col,dd,k0,k1,k2,k3,k5,mN,i,v,k,T):=adn I.ok.mod.kin n;refine wpAny_Raise_call_subT (C:=C) (nm:=nm) (q:=q) (N:=N) (bs:=bs) (bm:=w) (hdct:=hdct) (sn:=sn) (sub:=sub) (ab:=ab) (col:=col) (dd:=dd) (k0:=k0) (k1:=k1) (k2:=k2) (k3:=k3) (k5:=k5)
  FB (mN:=mN) (T.hasType FB.hasBase) (I.ok.hd o) (by rw[m];show(eY || (JF a (IW es X.env)).any (·.1))=eY;rw[j];rfl) k (ug I p hm #[fR,?_] l)
 let key:=F a b s σ H _ I h;rw[m] at key |-;refine BV (B2 key (λus A h2=>?_) λ_ _ y=>y);let(vs,G,d,r,hz,z):=h2;exact#[fR,by rw[<- r.length];exact hz,d.bk _ _ i,v.keeps d.bk,T.keeps d.bk,λh' J mk=>u b σ G A h' J _ _ d mk z]
theorem Inv.track(I:Inv Y d σ H s)(hn:H a=eW)(g:Y.s₀.heap.get? a=eW)(h:a≠Y.env.locals)(t:∀x c,Y.env.cells.lookup x=eV c->c≠a)(hp:∀p∈Y.pn++d,p.1≠a)(k:ObjOk Y.prog Y.w (upd H a o) s.heap a o):Inv Y d σ (upd H a o) s:=by
 let keep:∀b u,H b=eV u->upd H a o b=eV u:=λb u e=>by rw[fh (gc e hn)];exact e
 refine#[I.ok,I.os,I.bare,#[I.base.keep,I.base.slot,λb ob e n l=>?_,I.base.there,λb xs e=>keep b _ (I.base.tups b xs e),λb ob xs e=>keep b _ (I.base.frzs b ob xs e),λb ps e=>?_],I.loc,I.cell,?_,λx c e=>?_,λp q=>?_,λb u e=>?_,I.len]
 . let:b≠a:=λz=>by rw[z,g] at e;cases e
   rw[fh this];exact I.base.free b ob e n l
 . let(m,j):=I.base.tbls b ps e;exact#[m,keep b _ j]
 . rw[fh (AE h)];exact I.free
 . rw[fh (t x c e)];exact I.freeC x c e
 . let(r,i,p3):=I.pin p q;exact#[r,by rw[fh (hp p q)];exact i,p3]
 by_cases f:b=a;subst f;rw[ad] at e;cases e;exact k;rw[fh f] at e;exact(I.hok b u e).stay (λ_ _ _ q=>q) (λc q=>keep c _ q) λc xs q=>keep c _ q
open PySem.Builtin PySem.Builtin.ObjectAttr PySem.Builtin.Getset_descriptor
mutual
inductive Dp(K:Aa)(H:Hp):V->PyData->Prop
 |non:Dp K H .non .none
 |bl (b:gQ):Dp K H (.bl b) (.bool b)
 |int (i:fB):Dp K H (.int i) (.int i)
 |str (x:fS):Dp K H (.str x) (.str x)
 |lst{a:IS}{xs:eZ V}{ds:eZ PyData}:SqL K H a xs->DpAll K H xs ds->Dp K H (.ref a) (.list ds)
 |tup{a:IS}{xs:eZ V}{ds:eZ PyData}:SqT K H a xs->DpAll K H xs ds->Dp K H (.ref a) (.tuple ds)
inductive DpAll(K:Aa)(H:Hp):eZ V->eZ PyData->Prop
 |nil:DpAll K H [] []
 |cons{v:V}{vs:eZ V}{d:PyData}{ds:eZ PyData}:Dp K H v d->DpAll K H vs ds->DpAll K H (v::vs) (d::ds)
end
mutual
theorem Dp.reads(I:Inv X pins σ H s):∀{v:V}{d:PyData},Dp X.K H v d->∀{u:IT},RelV v u->∃as,Reads s.heap u d as
 |_,_,.non,_,r=>by cases r;exact#[_,.none]
 |_,_,.bl b,_,r=>by cases r;exact#[_,.bool b]
 |_,_,.int i,_,r=>by let(t,rfl):=r;exact#[_,.int i t]
 |_,_,.str x,_,r=>by let(t,rfl):=r;exact#[_,.str x t]
 |_,_,.lst hs ha,_,r=>by
  cases r;let(its,rv,(o,n,e,hc,_,hd),_):=I.list hs;let(as,ra):=DpAll.reads I ha rv;exact#[_,.list e hc hd (by simpa using ra)]
 |_,_,.tup hs ha,_,r=>by
  cases r;let(its,rv,(o,e,hc,n,hd),_):=I.tuple hs;let(as,ra):=DpAll.reads I ha rv;exact#[_,.tuple e hc hd (by simpa using ra)]
theorem DpAll.reads(I:Inv X pins σ H s):∀{vs:eZ V}{ds:eZ PyData},DpAll X.K H vs ds->∀{us:eZ IT},Vals vs us->∃as,ReadsAll s.heap us ds as
 |_,_,.nil,_,r=>by cases r;exact#[_,.nil]
 |_,_,.cons h1 h2,_,r=>by
  cases r with
  |cons r1 r2 =>
   let(as,q1):=Dp.reads I h1 r1;let(bs,q2):=DpAll.reads I h2 r2;exact#[_,.cons q1 q2]
end
def EqOk(d:PyData):Prop:=d.canLay0=eX/\d.depth<=16
inductive rEqDS(K:Aa)(x y:V)(H:Hp)(Q:VK):Prop
 |mk (dx dy:PyData)(h0:Dp K H x dx)(h1:Dp K H y dy)(h2:EqOk dx)(h3:EqOk dy)(h4:Q (.bl (Et dx dy)) H):rEqDS K x y H Q
def rEqD(K:Aa):R2:=λx y H Q=>rEqDS K x y H Q
inductive rNeDS(K:Aa)(x y:V)(H:Hp)(Q:VK):Prop
 |mk (dx dy:PyData)(h0:Dp K H x dx)(h1:Dp K H y dy)(h2:EqOk dx)(h3:EqOk dy)(h4:Q (.bl (!PyData.eqv dx dy)) H):rNeDS K x y H Q
def rNeD(K:Aa):R2:=λx y H Q=>rNeDS K x y H Q
theorem aeq(k:X.A.units+32<cLine):OpR X (JD .Eq) (rEqD X.K):=by
 intro a s σ H x y v u Q I d i h;let(j,g,h1,h2,b,c,q):=h;let(as,f):=Dp.reads I h1 d;let(bs,e):=Dp.reads I h2 i;exact SeqAt.compareEq_reads f e b.1 c.1 (by let:=b.2;let:=Ie j.depth g.depth;lia) #[.bl _,H,I,fR,q]
theorem aeo(k:X.A.units+32<cLine):OpR X (JD .NotEq) (rNeD X.K):=by
 intro a s σ H x y v u Q I d i h;let(j,g,h1,h2,b,c,q):=h;let(as,f):=Dp.reads I h1 d;let(bs,e):=Dp.reads I h2 i;exact SeqAt.compareNe_reads f e b.1 c.1 (by let:=b.2;let:=Ie j.depth g.depth;lia) #[.bl _,H,I,fR,q]
def uy(r:fJ):eZ PyData:=r.map .str
def dRow(r:fJ):PyData:=.tuple (uy r)
def RowAt(K:Aa)(H:Hp)(a:IS)(r:fJ):Prop:=SqT K H a (r.map V.str)
inductive RowsAtS(K:Aa)(H:Hp)(a:IS)(rs:fG):Prop
 |mk (as:eZ IS)(h0:H a=eV (.lst (as.map V.ref)))(h1:IZ (λb r=>RowAt K H b r) as rs):RowsAtS K H a rs
def RowsAt(K:Aa)(H:Hp)(a:IS)(rs:fG):Prop:=RowsAtS K H a rs
inductive TellAtS(K:Aa)(H:Hp)(a:IS)(rss:eZ (fG)):Prop
 |mk (as:eZ IS)(h0:SqT K H a (as.map V.ref))(h1:IZ (λb rs=>RowsAt K H b rs) as rss):TellAtS K H a rss
def TellAt(K:Aa)(H:Hp)(a:IS)(rss:eZ (fG)):Prop:=TellAtS K H a rss
theorem Same.seqT{K:Aa}(e:Same H H')(h:SqT K H a xs):SqT K H' a xs:=by
 rcases h with (h|⟨o,h⟩)|h
 . exact .inl (.inl (e _ _ h))
 . exact .inl (.inr #[o,e _ _ h])
 exact .inr h
theorem RowAt.same{K:Aa}(h:RowAt K H a r)(e:Same H H'):RowAt K H' a r:=e.seqT h
theorem RowsAt.same{K:Aa}(h:RowsAt K H a rs)(e:Same H H'):RowsAt K H' a rs:=by
 let(as,h1,h2):=h;exact#[as,e _ _ h1,Paired.mapP h2 λb r z=>z.same e]
theorem TellAt.same{K:Aa}(h:TellAt K H a c)(e:Same H H'):TellAt K H' a c:=by
 let(as,h1,h2):=h;exact#[as,e.seqT h1,Paired.mapP h2 λb r z=>z.same e]
theorem a3z{K:Aa}:∀r:fJ,DpAll K H (r.map V.str) (uy r)
 |[]=>.nil
 |x::r=>.cons (.str x) (a3z r)
theorem RowAt.dp{K:Aa}(h:RowAt K H a r):Dp K H (.ref a) (dRow r):=.tup h (a3z r)
theorem a3l{K:Aa}:∀{as:eZ IS}{rs:fG},IZ (λb r=>RowAt K H b r) as rs->DpAll K H (as.map V.ref) (rs.map dRow)
 |_,_,.nil=>.nil
 |_,_,.cons h1 h2=>.cons h1.dp (a3l h2)
theorem RowsAt.dp{K:Aa}(h:RowsAt K H a rs):Dp K H (.ref a) (.list (rs.map dRow)):=by
 let(as,h1,h2):=h;exact .lst (SqL.of h1) (a3l h2)
theorem fe(h:H p=eW)(o:HO):Same H (upd H p o):=λb u q=>by rw[fh (gc q h)];exact q
open PySem.Builtin.Str
def cutS(z:fS)(lo hi:fA fB):fS:=#[((z.cps.toList.drop (HT.sIx z.length 0 lo)).take (HT.sIx z.length z.length hi-HT.sIx z.length 0 lo)).toArray]
theorem x6(n d:fC)(hd:d<=n)(v:fA fB)(hv:∀i,v=eV i -> -(n:fB)<=i\/0<=i\/True):HT.sIx n d v<=n:=by
 cases v with
 |none=>exact hd
 |some i =>
  show(if i<0 then(i+(n:fB)).toNat else min i.toNat n)<=n;split<;>lia
theorem a0n(n d:fC)(hd:d<=n)(v:fA fB):(match v with|none=>(d:fB)|some i=>max 0 (min (if i<0 then i+(n:fB) else i) (n:fB)))=((HT.sIx n d v:fC):fB):=by
 cases v with
 |none=>rfl
 |some i =>
  show max 0 (min (if i<0 then i+(n:fB) else i) (n:fB))=((if i<0 then(i+(n:fB)).toNat else min i.toNat n:fC):fB)
  split<;>lia
theorem a32(lo hi:fA fB)(n:fC):strSliceIndices lo hi 1 n=(Bb (HT.sIx n n hi-HT.sIx n 0 lo)).map (λk=>HT.sIx n 0 lo+k):=by
 let e:=a0n n 0 (AF _) lo;let c:=a0n n n (An _) hi;let key:strSliceIndices lo hi 1 n=sliceRange ((HT.sIx n 0 lo:fC):fB) ((HT.sIx n n hi:fC):fB) 1:=by
  rw[<- e,<- c];cases lo<;>cases hi<;>rfl
 rw[key];generalize HT.sIx n 0 lo=a;generalize HT.sIx n n hi=b;unfold sliceRange;simp only[show((1:fB)>0)=True from by simp,if_true];by_cases h:(a:fB)<b
 . rw[fE h];let f:(((b:fB)-a+1-1) / 1).toNat=b-a:=by lia
   rw[f];refine Cm λk _=>?_
   lia
 rw[fD h];let d:b-a=0:=by lia
 rw[d];rfl
theorem a6q(z:fS)(lo hi:fA fB):((strSliceIndices lo hi 1 z.length).filterMap (z.cps[·]?))=(z.cps.toList.drop (HT.sIx z.length 0 lo)).take (HT.sIx z.length z.length hi-HT.sIx z.length 0 lo):=by
 rw[a32];let hz:z.length=z.cps.toList.length:=by simp[Cp]
 let c:HT.sIx z.length z.length hi<=z.length:=x6 _ _ (An _) hi λ_ _=>.inr (.inr trivial);generalize HT.sIx z.length 0 lo=a at*;generalize HT.sIx z.length z.length hi=b at*;by_cases h:a<=b;let:=StrLaws.picks z.cps.toList (b-a) a (by lia);simpa using this
 let e:b-a=0:=by lia
 rw[e];simp
def rSlS:V->fA fB->fA fB->Hp->VK->Prop:=λx lo hi H Q=>∃z,x=.str z/\z.length<=IR/\Q (.str (cutS z lo hi)) H
theorem a7u:SlR X rSlS:=by
 intro e s σ H x v j p lo hi f Q I m y pl g h;let(z,rfl,hz,q):=h;let(t,rfl):=m;exists "str",_,PySem.F.slot_str_getitem.lookup,Gi s z t;obtain⟨l,hl,G⟩:∃l:fA (fB×Tok),partValue l=j/\l.map (·.1)=lo:=by
  cases pl with|none=>exact#[eW,fR,fR]|int i t=>exact#[eV (i,t),fR,fR]
 obtain⟨u,r,E⟩:∃u:fA (fB×Tok),partValue u=p/\u.map (·.1)=hi:=by
  cases g with|none=>exact#[eW,fR,fR]|int i t=>exact#[eV (i,t),fR,fR]
 let B:s.heap.IsSlice f l u eW:=by
  let(o,k,n,hd):=y;exact#[o,k,n,by rw[hd,hl,r];rfl]
 refine getItem_meets (Gi s z t) (by decide) PySem.F.slot_str_getitem PySem.F.entry_str_getitem (PySem.F.args_str_getitem_2 _ _) (meets_str_getitem_slice z t f l u eW (by decide)) #[B,?_];let a:slicePicked z l u eW=strSliceIndices lo hi 1 z.length:=by
  unfold slicePicked;rw[G,E];rfl
 let b:((slicePicked z l u eW).filterMap (z.cps[·]?))=(z.cps.toList.drop (HT.sIx z.length 0 lo)).take (HT.sIx z.length z.length hi-HT.sIx z.length 0 lo):=by rw[a];exact a6q z lo hi
 unfold sliceMade;split
 . rename_i w;let c:(slicePicked z l u eW).length=z.length:=by simpa using w
   let eq:cutS z lo hi=z:=by
    let C:((z.cps.toList.drop (HT.sIx z.length 0 lo)).take (HT.sIx z.length z.length hi-HT.sIx z.length 0 lo))=z.cps.toList:=by
     rw[a,a32,Ad,B6] at c;let J:HT.sIx z.length z.length hi<=z.length:=x6 _ _ (An _) hi λ_ _=>.inr (.inr trivial);rcases Nat.eq_zero_or_pos z.length with d|d
     . let:z.cps.toList=[]:=by
        let:z.cps.toList.length=0:=by simpa [Cp] using d
        exact Ci this
       rw[this];simp
     let D:HT.sIx z.length 0 lo=0:=by lia
     let A:HT.sIx z.length z.length hi=z.length:=by lia
     rw[D,A,DQ,Eu];exact B0 (by simp[Cp])
    unfold cutS;rw[C]
   rw[eq] at q;exact#[.str z,H,I,#[t,fR],q]
 show(Made.str _).post _ s;rw[b];refine#[?_,.str (cutS z lo hi),H,I.tok _,#[_,fR],q];refine AA ?_ hz;show((z.cps.toList.drop (HT.sIx z.length 0 lo)).take (HT.sIx z.length z.length hi-HT.sIx z.length 0 lo)).toArray.size<=z.cps.size;rw[A0,AG,By,AC]
 lia
def Glob(mg:fS->fA IT)(x:fS)(v:V):Prop:=∃u,mg x=eV u/\RelV v u
theorem pe_g(h:Glob X.mg x v)(a:autoParam (Gl X x) a4_)(hd:autoParam ((x==("__debug__":fS))=eY) a1_):PE X (.Name x pos) (tC v):=by
 let(u,hm,r):=h;exact ads a hm r hd
theorem a13(a:∀y∈c.names,y.2≠.free)(b:∀y∈c.names,y.2≠.cell)(y:fS)(h:(JK c env).names.lookup y=eV .cell\/(JK c env).names.lookup y=eV .free):False:=by
 let key:∀k,(JK c env).names.lookup y=eV k->∃z∈c.names,z.2=k\/z.2=.free:=λk e=>by
  let hm:=BD e;let(z,hz,d):=As.mp hm;exists z,hz;let(n,kk):=z;dsimp only at d;split at d;rename_i f;simp only[Bv,beq_iff_eq] at f;exact .inr f.1.1;exact .inl (fX Prod.snd d)
 rcases h with h|h;obtain⟨z,hz,q|q⟩:=key _ h;exact b z hz q;exact a z hz q
 obtain⟨z,hz,q|q⟩:=key _ h;exact a z hz q;exact a z hz q
theorem a1n(hi:PI X (.Name x u) f t)(m:∀s H C ex,PTs (blk X [x] s H g [] C ex) l v)(q:∀s H C ex,PE (blk X [x] s H g [] C ex) k w)(r:autoParam (X.calm=eX) a4_)(i:autoParam (g.kind=.function) a4_)(p:autoParam (g.names.lookup x=eV .local) a1_)(a:autoParam (∀y∈g.names,y.2≠.free) a1_)(b:autoParam (∀y∈g.names,y.2≠.cell) a1_)(d:autoParam (∀y∈g.names,y.2=.local->g.names.lookup y.1=eV .local) a1_)(o:autoParam (∀x,JC f X.env x=pure x) a3_):
 PE X (.ListComp k [#[.Name x u,f,l,0]] g pos) (q0 [] t v w) :=
 xq [x] r hi m q i rfl (by simp) p (PySem.closureFor_none a) b d (λy c e=>by simp at e) (λy h=>(a13 a b y h).elim) (λj n=>by simp at n) o
structure JSeq(J:It)(I0:Hp->Prop)(xs:eZ V):Prop where
 go:∀i H,I0 H->i<xs.length->J.go i H
 stop:∀i H,I0 H->xs.length<=i->J.stop i H
 yld:∀i H x H',i<xs.length->I0 H->J.yld i H x H'->H'=H/\xs[i]?=eV x
 stay:∀H H',I0 H->Same H H'->I0 H'
theorem ab8{K:Aa}:JSeq (Itt K a) (λH=>SqT K H a xs) xs where
 go:=λi H h hi=>#[xs,xs[i],h,by simp[hi]]
 stop:=λi H h hi=>#[xs,h,hi]
 yld:=λi H x H' _ h y=>#[y.1,y.2 xs h]
 stay:=λH H' h e=>e.seqT h
theorem kj{K:Aa}:JSeq (Itl K a) (λH=>SqL K H a xs) xs where
 go:=λi H h hi=>#[xs,xs[i],h,by simp[hi]]
 stop:=λi H h hi=>#[xs,h,hi]
 yld:=λi H x H' _ h y=>#[y.1,y.2 xs h]
 stay:=λH H' h e=>e.seq h
def nums(lo:fB)(n:fC):eZ V:=(Bb n).map λi=>V.int (lo+(i:fC))
theorem vd{lo:fB}:JSeq (Itr lo n) (λ_=>True) (nums lo n) where
 go:=λi H _ hi=>by simpa [nums,Itr] using hi
 stop:=λi H _ hi=>by simpa [nums,Itr] using hi
 yld:=λi H x H' hi _ y=>by
  exists y.1;let a:i<n:=by simpa [nums] using hi
  let e:x=.int (lo+i):=y.2;unfold nums;rw[Ap,G9 a,e];rfl
 stay:=λ_ _ _ _=>trivial
theorem Paired.snocP:∀{a:eZ α}{l₂:eZ β},IZ F a l₂->F x y->IZ F (a++[x]) (l₂++[y])
 |_,_,.nil,h=>.cons h .nil
 |_,_,.cons h₁ t,h=>.cons h₁ (Paired.snocP t h)
def x0(D:IS)(H H':Hp):Prop:=∀b u,H b=eV u->b≠D->H' b=eV u
theorem Same.x(e:Same H H')(D:IS):x0 D H H':=λb u q _=>e b u q
theorem a1v(xs:eZ V)(p:V->gQ)(R:IS->V->V->Hp->Prop)(k:JSeq J M xs)(F:M f)(hz:xs.length<=IR)(l:∀D x y H H',R D x y H->x0 D H H'->R D x y H')(G:∀x∈xs,∀c,Same f c->∀h:gQ->Hp->Prop,(∀g,Same c g->h (p x) g)->L (eV x::jy σ B) c h)(O:∀D,∀x∈xs,p x=eX->∀c,Same f c->c D≠eW->∀h:VK,(∀y g,Same c g->R D x y g->h y g)->S (eV x::jy σ B) c h)(P:∀D H' ys,f D=eW->Same f H'->H' D=eV (.lst ys)->IZ (λx y=>R D x y H') (xs.filter p) ys->Q (.ref D) H'):
 oa J f σ B L S Q:=by
 intro D E;let put:∀H ys,Same f H->Same f (upd H D (.lst ys)):=λH ys e b u q=>by rw[fh (gc q E)];exact e b u q
 exists λi m H=>i<=xs.length/\m=xs.length-i/\Same f H/\∃ys,H D=eV (.lst ys)/\IZ (λx y=>R D x y H) ((xs.take i).filter p) ys,#[xs.length,AF _,fR,put _ _ (Same.refl _),[],ad,by simpa using Paired.nil];rintro i m H ⟨hi,rfl,e,ys,j,hp⟩;let n:=k.stay _ _ F e;by_cases a:i<xs.length
 . refine .inr #[k.go i H n a,λx H' r=>?_];let(rfl,w):=k.yld i H x H' a n r;let hm:x∈xs:=Ar w;let v:xs.take (i+1)=xs.take i++[x]:=by rw[AL,w];rfl
   let C:ys.length<=i:=by
    let h1:=A3 hp;let h2:=B4 p (xs.take i);rw[AG] at h2
    lia
   refine G x hm _ e _ λg d=>?_;cases hpx:p x with
   |false =>
    rw[fD Aw];exists xs.length-(i+1),by lia,a,fR,e.trans d,ys,d _ _ j;rw[v,Hl];simp only[Dt,hpx,Ig,A2,B9,if_false];exact Paired.mapP hp λx y z=>l _ _ _ _ _ z (d.x D)
   |true =>
    rw[fE rfl];refine O D x hm hpx _ (e.trans d) (by rw[d _ _ j];simp) _ λy t o I=>?_;let A:x0 D t (upd t D (.lst (ys++[y]))):=λb u q N=>by rw[fh N];exact q
    exists ys,o _ _ (d _ _ j),by lia,xs.length-(i+1),by lia,a,fR,put _ _ (e.trans (d.trans o)),ys++[y],ad;rw[v,Hl];simp only[Dt,hpx,Ig,if_true];exact Paired.snocP (Paired.mapP hp λx y z=>l _ _ _ _ _ (l _ _ _ _ _ z ((d.trans o).x D)) A) (l _ _ _ _ _ I A)
 let s:i=xs.length:=by lia
 subst s;refine .inl #[k.stop _ H n (An _),?_];rw[AW] at hp;exact P D H ys E e j hp
theorem nh:∀{l:eZ α}{a:eZ β},IZ (λx y=>y=f x) l a->a=l.map f
 |_,_,.nil=>rfl
 |_,_,.cons h t=>by rw[h,nh t];rfl
theorem vr(xs:eZ V)(p:V->gQ)(f:V->V)(k:JSeq J u xs)(i:u d)(hz:xs.length<=IR)(n:∀x∈xs,∀a,Same d a->∀b:gQ->Hp->Prop,(∀c,Same a c->b (p x) c)->r (eV x::jy σ g) a b)(m:∀x∈xs,p x=eX->∀a,Same d a->∀b:VK,(∀c,Same a c->b (f x) c)->t (eV x::jy σ g) a b)(s:∀D H',d D=eW->Same d H'->H' D=eV (.lst ((xs.filter p).map f))->Q (.ref D) H'):
 oa J d σ g r t Q :=
 a1v xs p (λ_ x y _=>y=f x) k i hz (λ_ _ _ _ _ h _=>h) n (λ_ x l hp a e _ b q=>m x l hp a e b λc v=>q _ c v rfl) λD H' ys o e j hp=>s D H' o e (by rw[j,nh hp])
theorem qx(xs:eZ V)(a:eZ V)(f:JSeq J w xs)(t:w d)(hz:xs.length<=IR)(hl:a.length=xs.length)(A:∀(i:fC) (x y:V),xs[i]?=eV x->a[i]?=eV y->∀h,Same d h->∀r:VK,(∀l,Same h l->r y l)->C (eV x::jy σ z) h r)(B:∀D H',d D=eW->Same d H'->H' D=eV (.lst a)->Q (.ref D) H'):oa J d σ z tYes C Q:=by
 intro D s;let put:∀H ys,Same d H->Same d (upd H D (.lst ys)):=λH ys e b u q=>by rw[fh (gc q s)];exact e b u q
 exists λi m H=>i<=xs.length/\m=xs.length-i/\Same d H/\H D=eV (.lst (a.take i)),#[xs.length,AF _,fR,put _ _ (Same.refl _),by rw[ad,Cd]];rintro i m H ⟨hi,rfl,e,n⟩;let g:=f.stay _ _ t e;by_cases c:i<xs.length;refine .inr #[f.go i H g c,λx H' j=>?_];let(rfl,v):=f.yld i H x H' c g j;let o:a[i]?=eV a[i]:=Ah (by lia);unfold tYes;dsimp only;rw[fE rfl];refine A i x a[i] v o _ e _ λl p=>?_;exists a.take i,p _ _ n,by rw[AG];lia,xs.length-(i+1),by lia,c,fR,put _ _ (e.trans p);rw[ad,AL,o];rfl
 let k:i=xs.length:=by lia
 subst k;refine .inl #[f.stop _ H g (An _),B D H s e ?_];rw[n,B0 (by lia)]
theorem vg(xs:eZ V)(rs:eZ α)(p:α->gQ)(j:JSeq J o xs)(g:o d)(hz:xs.length<=1000)(hl:rs.length=xs.length)(l:∀(i:fC) (x:V) (r:α),xs[i]?=eV x->rs[i]?=eV r->∀b,Same d b->∀c:VK,(∀f,Same b f->c (.bl (p r)) f)->n (eV x::jy σ h) b c)(m:∀D H',d D=eW->Same d H'->H' D=eV (.lst ((rs.map p).map V.bl))->Q (.ref D) H'):oa J d σ h tYes n Q :=
 qx xs ((rs.map p).map V.bl) j g (B7 (kt hz)) (by simp[hl]) (λi x y k a b e c q=>by
  rw[Ap,Ap] at a;cases hr:rs[i]? with
  |none=>rw[hr] at a;cases a
  |some r =>
   rw[hr] at a;let:y=.bl (p r):=(Am a).symm;subst this;exact l i x r k hr b e c q) m
theorem afx{j}(a:PA X es t):PA X (.Constant (.str x) j pos::es) (ka (tC (.str x)) t):=kl a5t a rfl
theorem aeu{j}(a:PA X es t):PA X (.Constant (.int i) j pos::es) (ka (tC (.int i)) t):=kl tp a rfl
theorem age{j}(a:PA X es t):PA X (.Constant (.bool b) j pos::es) (ka (tC (.bl b)) t):=kl acd a rfl
theorem agf(h:PE X (.Name x pos) b)(a:PA X es t):PA X (.Name x pos::es) (ka b t):=kl h a rfl
theorem agl{x1}(h:PA X a c)(b:PA X es t):PA X (.Tuple a x1 pos::es) (ka (tTup c) t):=kl (a64 h) b rfl
theorem ag2(h:PA X a c)(b:PA X es t):PA X (.List a pos::es) (ka (tLst c) t):=kl (a1h h) b rfl
theorem aef(h:PE X (.Subscript a b pos) d)(c:PA X es t):PA X (.Subscript a b pos::es) (ka d t):=kl h c rfl
theorem ad5(h:PE X (.Call f as a pos) c)(b:PA X es t):PA X (.Call f as a pos::es) (ka c t):=kl h b rfl
theorem aez(h:PE X (.BinOp a op b pos) d)(c:PA X es t):PA X (.BinOp a op b pos::es) (ka d t):=kl h c rfl
structure QE(X:Cx)(e:Expr)(t:TE):Prop where
 run:PE X e t
structure QT(X:Cx)(e:Expr)(t:TT):Prop where
 run:PT X e t
structure QW(X:Cx)(e:Expr)(t:TT):Prop where
 run:PW X e t
structure QA(X:Cx)(es:eZ Expr)(t:TA):Prop where
 run:PA X es t
structure QS(X:Cx)(st:JA)(t:TS):Prop where
 run:PS X st t
structure QB(X:Cx)(st:eZ JA)(t:TS):Prop where
 run:PSs X st t
structure QI(X:Cx)(tg iter:Expr)(wi:TI):Prop where
 run:PI X tg iter wi
structure QG(X:Cx)(target:Expr)(t:TG):Prop where
 run:PG X target t
structure QO(X:Cx)(e:fA Expr)(t:TO):Prop where
 run:PO X e t
structure QTs(X:Cx)(ifs:eZ Expr)(t:TT):Prop where
 run:PTs X ifs t
theorem QW.qt(h:QW X e t):QT X e t:=#[PW.pt h.run]
section
set_option relaxedAutoImplicit true
theorem gd:QB X [] abw:=#[ad6 ]
theorem fc{st:JA}{rest:eZ JA}(h1:QS X st t)(h2:QB X rest u):QB X (st::rest) (let a:=u;tSeq t a):=#[vm h1.run h2.run]
theorem ff{st:JA}(h1:QS X st t):QB X [st] t:=#[xc h1.run]
theorem gg(f:QT X c h)(g:QB X a t)(d:QB X b u):QS X (.If c a b pos) (let t':=t;let e:=u;tIfS h t' e):=#[ag9 f.run g.run d.run]
theorem u7(h:X.N.Nodup)(hi:X.N[i]?=eV x)(b:Loc X.env.scope x)(c:QE X e g)(d:autoParam (JN e (eV (.Name x a)) pos.line X.env=pure eY) a4_)(f:autoParam (X.fn x=eX\/X.env.scope.names.lookup x=eV .local) a0_):     QS X (.Assign [.Name x a] e pos) (tAsg g (jh i)):=#[a81 h hi b c.run d f]
theorem fx(a:QE X e te):QS X (.Return (eV e) pos) (tRet te):=#[a7x a.run]
theorem ia(a:QE X e te)(b:autoParam (JN e eW pos.line X.env=pure eY) a4_):QS X (.Expr e pos) (acb te):=#[a2r a.run b]
theorem im(hp:PassesOwn (IV X.prog X.w) X.A X.env X.xe)(e:X.calm=eX)(hi:QI X tg a f)(b:QG X tg g)(c:QB X body h)(d:autoParam (∀x,JC a X.env x=pure x) a3_):QS X (.For tg a body [] pos) (let t':=h;tFor f g t'):=#[a5x hp e hi.run b.run c.run d]
theorem a11(d:QE X e h)(b:QG X a g)(c:autoParam (swapsWithSole [a] e pos.line X.env=pure eY) a4_)(f:autoParam (swappedStores [a] e X.env=pure eW) a4_)(h1:autoParam ((JB [a] X.env).map (·.2)=[assign a X.env]) a4_):QS X (.Assign [a] e pos) (tAsg h g):=#[af9 d.run b.run c f h1]
theorem a9y(f:a1q X E)(g:X.calm=eX)(FB:ExcBaseFacts B newId initId bmB)(c:Gl X x)(hm:X.mg x=eV (.ref C))(i:Dx X.K C bmB newId=eX)(h:QA X (e::es) t)(b:autoParam ((x==("__debug__":fS))=eY) a1_)(d:autoParam (IW (e::es) X.env=(eY,eval e X.env)::IW es X.env) a4_)(a:autoParam ((JF cpos (IW es X.env)).any (·.1)=eY) a4_):     QS X (.Raise (eV (.Call (.Name x np) (e::es) [] cpos)) eW pos) (a5e C E t):=#[abb f g FB c hm i h.run b d a]
theorem mj(hp:PassesOwn (IV X.prog X.w) X.A X.env X.xe)(b:QT X c e)(a:QB X body d):QS X (.While c body [] pos) (let t':=d;tf e t'):=#[ab4 hp b.run a.run]
theorem aab:QS X (.Break pos) a6g:=#[a98 ]
theorem a21:QS X (.Continue pos) ac7:=#[a20 ]
theorem dl{i j pos}:QE X (.Constant (.int i) j pos) (tC (.int i)):=#[tp ]
theorem md{b j pos}:QE X (.Constant (.bool b) j pos) (tC (.bl b)):=#[acd ]
theorem gu{j pos}:QE X (.Constant .none j pos) (tC .non):=#[aeg ]
theorem gj{x j pos}:QE X (.Constant (.str x) j pos) (tC (.str x)):=#[a5t ]
theorem qv(i:fC)(b:autoParam (X.N[i]?=eV x) a4_)(hv:autoParam (Vis X.env.scope x) a5_)(hd:autoParam ((x==("__debug__":fS))=eY) a1_)(a:autoParam ((x==("__classdict__":fS))=eY) a1_):QE X (.Name x pos) (tVar i):=#[pv i b hv hd a]
theorem fj(e:OpR X (JQ op) r)(f:QE X a ta)(d:QE X b tb):QE X (.BinOp a op b pos) (let c:=tb;tOp r ta c):=#[abn e f.run d.run]
theorem j7(e:OpR X (JD op) r)(f:QE X a ta)(d:QE X b tb)(hm:JE op b=eY):QE X (.Compare a [op] [b] pos) (let c:=tb;tOp r ta c):=#[adq e f.run d.run hm]
theorem fo(e:OpR X (JD op) r)(f:QE X a ta)(d:QE X b tb)(hm:JE op b=eY):QT X (.Compare a [op] [b] pos) (let c:=tb;a45 (tOp r ta c)):=#[a3u e f.run d.run hm]
theorem j5(h:QE X e t)(a:autoParam (∀whole,isTrue e X.env whole=(do let v<-whole;standAt e.pos;holding [v] (truthy v))) a3_):QT X e (tB t):=#[af5 h.run a]
theorem ld(b:QT X a tA):QT X (.UnaryOp .Not a pos) (tNot tA):=#[aet b.run]
theorem je(b:QT X a tA):QW X (.BoolOp .And [a] pos) tA:=#[adr b.run]
theorem ls(b:QT X a tA):QW X (.BoolOp .Or [a] pos) tA:=#[af4 b.run]
theorem j6{rest:eZ Expr}(e:QT X a tA)(d:QW X (.BoolOp .And (b::rest) pos) tB'):QW X (.BoolOp .And (a::b::rest) pos) (let c:=tB';tAnd tA c):=#[afe e.run d.run]
theorem mo{rest:eZ Expr}(e:QT X a tA)(d:QW X (.BoolOp .Or (b::rest) pos) tB'):QW X (.BoolOp .Or (a::b::rest) pos) (let c:=tB';tOr tA c):=#[agn e.run d.run]
theorem ni{op}(h:QE X a t):QE X (.BoolOp op [a] pos) t:=#[afh h.run]
theorem r6{rest:eZ Expr}(e:QE X a ta)(d:QE X (.BoolOp .And (b::rest) pos) tb):QE X (.BoolOp .And (a::b::rest) pos) (let c:=tb;aca ta c):=#[af8 e.run d.run]
theorem a4c{rest:eZ Expr}(e:QE X a ta)(d:QE X (.BoolOp .Or (b::rest) pos) tb):QE X (.BoolOp .Or (a::b::rest) pos) (let c:=tb;tOrV ta c):=#[agb e.run d.run]
theorem a6r(b:QE X a ta):QE X (.UnaryOp .Not a pos) (abj ta):=#[afk b.run]
theorem nq(f:QT X c tA)(d:QE X a ta)(e:QE X b tb):QE X (.IfExp c a b pos) (tIf tA ta tb):=#[a9k f.run d.run e.run]
theorem my(e:IxR X r)(g:QE X a ta)(d:QE X b tb)(f:uv b):QE X (.Subscript a b pos) (let c:=tb;tOp r ta c):=#[a58 e g.run d.run f]
theorem kz{lo:fA Expr}(a:SlR X r)(c:QE X e te)(hl:QO X lo tl)(b:QO X hi th):QE X (.Subscript e (.Slice lo hi eW p2) pos) (tSl r te tl th):=#[a1g a c.run hl.run b.run]
theorem mq:QO X eW a29:=#[a3s ]
theorem lj(h:QE X e te):QO X (eV e) (abv te):=#[a2a h.run]
theorem ij{x1}(h:QA X es t):QE X (.Tuple es x1 pos) (tTup t):=#[a64 h.run]
theorem ie(h:QA X es t):QE X (.List es pos) (tLst t):=#[a1h h.run]
theorem oz(F:FnOk X.prog X.w X.K X.mg X.base CX k f fd ps sp)(j:Room k X.A)(c:Gl X x)(hm:X.mg x=eV (.ref f))(l:BU X.K (.ref f)=eX)(d:Binds X.K fd ps ds)(hd:Vals dvs ds)(g:la CX X E)(i:QA X (e::es) t)(b:autoParam ((x==("__debug__":fS))=eY) a1_)(h:autoParam (IW (e::es) X.env=(eY,eval e X.env)::IW es X.env) a4_)(a:autoParam ((JF pos (IW es X.env)).any (·.1)=eY) a4_):     QE X (.Call (.Name x p) (e::es) [] pos) (zp sp dvs E t):=#[ae8 F j c hm l d hd g i.run b h a]
theorem gn{id:String}(f:kb X (.builtin id) r)(c:Gl X x)(hm:X.mg x=eW)(hv:bootBuiltins x=eV (.builtin id))(g:QA X (e::es) t)(hn:autoParam (x≠"__name__") a1_)(b:autoParam ((x==("__debug__":fS))=eY) a1_)(d:autoParam (IW (e::es) X.env=(eY,eval e X.env)::IW es X.env) a4_)(a:autoParam ((JF pos (IW es X.env)).any (·.1)=eY) a4_):QE X (.Call (.Name x p) (e::es) [] pos) (tCB r t):=#[a18 f c hm hv g.run hn b d a]
theorem iz(g:kb X (.type T) r)(c:Gl X x)(hm:X.mg x=eW)(hv:bootBuiltins x=eV (.type T))(f:QA X (e::es) t)(hn:autoParam (x≠"__name__") a1_)(b:autoParam ((x==("__debug__":fS))=eY) a1_)(d:autoParam (IW (e::es) X.env=(eY,eval e X.env)::IW es X.env) a4_)(a:autoParam ((JF pos (IW es X.env)).any (·.1)=eY) a4_):QE X (.Call (.Name x p) (e::es) [] pos) (tCB r t):=#[ya g c hm hv f.run hn b d a]
theorem a6x{id:String}(d:PlainAttrs T)(slot:Slot T name id)(c:typeOf (.builtin id)=pure (.type "method_descriptor"))(hm:MtR X id r)(e:QE X o to)(b:autoParam (JJ o name X.env (eval o X.env)=eval o X.env) a4_)(a:autoParam ((apos.endLine==cpos.line)=eX) a4_):QE X (.Call (.Attribute o name apos) [] [] cpos) (tBM0 X.K T r to):=#[af0 d slot c hm e.run b a]
theorem vo(hi:QI X (.Name x r) b q)(l:∀s H C ex,QTs (blk X [x] s H c [] C ex) j t)(o:∀s H C ex,QE (blk X [x] s H c [] C ex) g u)(p:autoParam (X.calm=eX) a4_)(d:autoParam (c.kind=.function) a4_)(n:autoParam (c.names.lookup x=eV .local) a1_)(e:autoParam (∀y∈c.names,y.2≠.free) a1_)(f:autoParam (∀y∈c.names,y.2≠.cell) a1_)(a:autoParam (∀y∈c.names,y.2=.local->c.names.lookup y.1=eV .local) a1_)(m:autoParam (∀x,JC b X.env x=pure x) a3_):     QE X (.ListComp g [#[.Name x r,b,j,0]] c pos) (q0 [] q t u):=#[a1n hi.run (λz0 h i k=>(l z0 h i k).run) (λz0 h i k=>(o z0 h i k).run) p d n e f a m]
theorem iq(hl:QE X l a):QI X tg l (acj X.K a):=#[a3f hl.run]
theorem a74(hl:QE X l a):QI X tg l (iTup X.K a):=#[a7f hl.run]
theorem afw(hl:QE X l a):QI X tg l (iStr a):=#[af1 hl.run]
theorem jk(b:Gl X "range")(hm:X.mg "range"=eW)(e:QA X [a] c)(d:autoParam (IW [a] X.env=[(eY,eval a X.env)]) a4_):QI X tg (.Call (.Name "range" p) [a] [] pos) (abp c):=#[a7a b hm e.run d]
theorem xp(c:X.N.Nodup)(hi:X.N[i]?=eV x)(b:Loc X.env.scope x)(a:autoParam (X.fn x=eX\/X.env.scope.names.lookup x=eV .local) a0_):QG X (.Name x pos) (jh i):=#[a2c c hi b a]
theorem fb:QA X [] tNil:=#[t9 ]
theorem jq(c:QE X e te)(a:QA X es t)(b:autoParam (IW (e::es) X.env=(eY,eval e X.env)::IW es X.env) a4_):QA X (e::es) (let t':=t;ka te t'):=#[kl c.run a.run b]
theorem gw{j}(a:QA X es t):QA X (.Constant (.str x) j pos::es) (let t':=t;ka (tC (.str x)) t'):=#[afx a.run]
theorem ja{j}(a:QA X es t):QA X (.Constant (.int i) j pos::es) (let t':=t;ka (tC (.int i)) t'):=#[aeu a.run]
theorem agm{j}(a:QA X es t):QA X (.Constant (.bool b) j pos::es) (let t':=t;ka (tC (.bl b)) t'):=#[age a.run]
theorem fg(h:QE X (.Name x pos) te)(a:QA X es t):QA X (.Name x pos::es) (let t':=t;ka te t'):=#[agf h.run a.run]
theorem mx{x1}(h:QA X es1 t1)(a:QA X es t):QA X (.Tuple es1 x1 pos::es) (let t':=t;ka (tTup t1) t'):=#[agl h.run a.run]
theorem ac6(h:QA X es1 t1)(a:QA X es t):QA X (.List es1 pos::es) (let t':=t;ka (tLst t1) t'):=#[ag2 h.run a.run]
theorem ft(h:QE X (.Subscript a b pos) te)(c:QA X es t):QA X (.Subscript a b pos::es) (let t':=t;ka te t'):=#[aef h.run c.run]
theorem i7(h:QE X (.Call f as b pos) te)(a:QA X es t):QA X (.Call f as b pos::es) (let t':=t;ka te t'):=#[ad5 h.run a.run]
theorem j9(h:QE X (.BinOp a op b pos) te)(c:QA X es t):QA X (.BinOp a op b pos::es) (let t':=t;ka te t'):=#[aez h.run c.run]
theorem m9:QTs X [] tYes:=#[acq ]
theorem qr(h:QT X c t):QTs X [c] t:=#[a3b h.run]
end
theorem a78(f:QE X o to)(hi:QE X i e)(c:PSet X t)(d:autoParam (∀v,assign (.Subscript o i pos) X.env v=(do
 let a<-holding [v] (eval o X.env);let b<-holding [v,a] (eval i X.env)
 standAt pos
 holding [v,a,b] (setItem a b v)
 release [v,a,b] [])) a3_):QG X (.Subscript o i pos) (gSub to e t):=#[aen f.run hi.run c d]
theorem Fun.okQ{K:Aa}{st:JA}(F:Fun K x b st f fd)(S:FnScope N ps (i8 st))(len:∀vs H Q E,sp vs H Q E->vs.length=ps.length)(c:∀(a:IT) (A:JW) (outer:eZ Env) (s:IX) (H:Hp) (vs:eZ V) (Q:VK) (E:XK),Room k (A.deeper (envOfC b (i8 st) s.heap.objs.size f a))->sp vs H Q E->
 ∃t,QB (cxOf CX0 P w K mg base N b (i8 st) f a A outer s H E).nox (lh st) t/\let D:Ends:={nx:=λ_ H'=>Q .non H',rt:=Q};let σ:=start N vs;t D σ H):FnOk P w K mg base CX0 (k+1) f fd ps sp :=
 F.ok S len λa A outer s H vs Q E d h=>by
  let(t,h1,h2):=c a A outer s H vs Q E d h;exact#[t,h1.run,h2]
theorem fz(i:fC)(hN:X.N.Nodup)(he:QE X e te)(hi:autoParam (X.N[i]?=eV x) a4_)(hx:autoParam (Loc X.env.scope x) a6_)(hs:autoParam (JN e (eV (.Name x pos')) pos.line X.env=pure eY) a4_)(hf:autoParam (X.fn x=eX\/X.env.scope.names.lookup x=eV .local) a0_):QS X (.Assign [.Name x pos'] e pos) (tAsg te (jh i)):=u7 hN hi hx he hs hf
theorem ip(i:fC)(hN:X.N.Nodup)(hi:autoParam (X.N[i]?=eV x) a4_)(hx:autoParam (Loc X.env.scope x) a6_)(hf:autoParam (X.fn x=eX\/X.env.scope.names.lookup x=eV .local) a0_):QG X (.Name x pos) (jh i):=xp hN hi hx hf
theorem fi(K:Aa)(ha:QE X a ta)(hb:QE X b tb)(hK:autoParam (X.K=K) a4_)(hs:autoParam (uv b) a7_):QE X (.Subscript a b pos) (tOp (rIxT K) ta tb):=by subst hK;exact my n9 ha hb hs
theorem gr(K:Aa)(ha:QE X a ta)(hb:QE X b tb)(hK:autoParam (X.K=K) a4_)(hs:autoParam (uv b) a7_):QE X (.Subscript a b pos) (tOp (rIxL K) ta tb):=by subst hK;exact my xw ha hb hs
theorem qe_cl(F:FnOk X.prog X.w X.K X.mg X.base CX0 k f fd ps sp)(hr:Room k X.A)(hm:X.mg x=eV (.ref f))(hk:BU X.K (.ref f)=eX)(hb:Binds X.K fd ps [])(ha:QA X (e::es) t)(hg:autoParam (Gl X x) a4_)(hdb:autoParam ((x==("__debug__":fS))=eY) a1_)(he:autoParam (IW (e::es) X.env=(eY,eval e X.env)::IW es X.env) a4_)(hpl:autoParam ((JF pos (IW es X.env)).any (·.1)=eY) a4_):QE X (.Call (.Name x p) (e::es) [] pos) (zp sp [] E0 t):=oz F hr hg hm hk hb .nil gt ha hdb he hpl
theorem Fun.okA{P:JH}{w:JL}{K:Aa}{mg:fS->fA IT}{base:JG}{x qual:fS}{st:JA}{f:IS}{fd:JO}{ps:fJ}{k:fC}{sp:Sp}(F:Fun K x qual st f fd)(N:fJ)(hbody:∀(cdv:IT) (A:JW) (outer:eZ Env) (s:IX) (H:Hp) (vs:eZ V) (Q:VK) (E:XK),Room k (A.deeper (envOfC qual (i8 st) s.heap.objs.size f cdv))->sp vs H Q E->N.Nodup->
 ∃t,QB (cxOf CX0 P w K mg base N qual (i8 st) f cdv A outer s H E).nox (lh st) t/\let D:Ends:={nx:=λ_ H'=>Q .non H',rt:=Q};let σ:=start N vs;t D σ H)(S:FnScope N ps (i8 st):=by exact#[fR,fR,fR,by decide,fR,by decide,by decide])(len:∀vs H Q E,sp vs H Q E->vs.length=ps.length:=by
 intro _ _ _ _ h
 first
  | (cases h<;>subst_vars<;>rfl)
  | (repeat' let(_,h):=h
     subst_vars;rfl)):FnOk P w K mg base CX0 (k+1) f fd ps sp :=
 F.okQ S len λcdv A outer s H vs Q E hr h=>hbody cdv A outer s H vs Q E hr h S.nd
theorem qi{H:Hp}{a:IS}(h:H a=eW)(o:HO):∃H':Hp,upd H a o=H'/\Same H H'/\H' a=eV o:=#[_,fR,fe h o,ad]
section
def valV[DecidableEq κ](kvs:eZ (κ×V))(k:κ):fA V:=(kvs.find? λkv=>decide (kv.1=k)).map (·.2)
def putK[DecidableEq κ](kvs:eZ (κ×V))(k:κ)(v:V):eZ (κ×V) :=
 if(kvs.any λkv=>decide (kv.1=k))=eX then kvs.map (λkv=>if kv.1=k then(kv.1,v) else kv) else kvs++[(k,v)]
def kg[DecidableEq κ](kvs:eZ (κ×V))(k:κ):eZ (κ×V):=kvs.filter λkv=>decide (kv.1≠k)
theorem il{κ:Type}[DecidableEq κ]{p:κ×V}{r:eZ (κ×V)}{k:κ}(e:p.1=k):valV (p::r) k=eV p.2:=by simp[valV,Ba,e]
theorem iw{κ:Type}[DecidableEq κ]{p:κ×V}{r:eZ (κ×V)}{k:κ}(e:¬ p.1=k):valV (p::r) k=valV r k:=by simp[valV,Ba,e]
variable{κ:Type}[DecidableEq κ] in
theorem ko(k:κ):∀kvs:eZ (κ×V),(kvs.any λkv=>decide (kv.1=k))=(valV kvs k).isSome
 |[]=>rfl
 |p::r=>by
  rw[Dw];by_cases e:p.1=k;simp only[il e,fU e,ID,Option.isSome_some];rw[iw e,fT e,Dy];exact ko k r
variable{κ:Type}[DecidableEq κ] in
theorem a17(k j:κ)(y:V):∀kvs:eZ (κ×V),valV (kvs.map λkv=>if kv.1=k then(kv.1,y) else kv) j=(valV kvs j).map λx=>if j=k then y else x
 |[]=>rfl
 |p::r=>by
  let a:=a17 k j y r;rw[A5];by_cases h:p.1=k;rw[fE h];by_cases e:p.1=j;rw[il (p:=(p.1,y)) e,il e,Ew,fE (e.symm.trans h)];rw[iw (p:=(p.1,y)) e,iw e,a]
  rw[fD h];by_cases e:p.1=j;rw[il (p:=p) e,il e,Ew,fD (λz=>h (e.trans z))];rw[iw (p:=p) e,iw e,a]
variable{κ:Type}[DecidableEq κ] in
theorem yq(k j:κ)(y:V):∀kvs:eZ (κ×V),valV kvs k=eW->valV (kvs++[(k,y)]) j=if j=k then eV y else valV kvs j
 |[],_=>by
  by_cases e:k=j;rw[fE e.symm];exact il (p:=(k,y)) e;rw[fD (λz=>e z.symm)];exact iw (p:=(k,y)) e
 |p::r,hn=>by
  rw[DZ];let a:¬ p.1=k:=λz=>by rw[il z] at hn;cases hn
  rw[iw a] at hn;let b:=yq k j y r hn;by_cases e:p.1=j;rw[il e,il e,fD (λz=>a (e.trans z))];rw[iw e,iw e,b]
theorem jx{κ:Type}[DecidableEq κ](kvs:eZ (κ×V))(k j:κ)(y:V):valV (putK kvs k y) j=if j=k then eV y else valV kvs j:=by
 unfold putK;by_cases a:(kvs.any λkv=>decide (kv.1=k))=eX
 . rw[fE a,a17];rw[ko] at a;by_cases e:j=k;let(x,b):=Bd.mp a;rw[fE e,e,b,Ew,fE rfl]
   . rw[fD e];cases valV kvs j with|none=>rfl|some x=>rw[Ew,fD e]
 rw[fD a];refine yq k j y kvs ?_;rw[ko] at a;cases q:valV kvs k with|none=>rfl|some x=>rw[q] at a;exact(a rfl).elim
theorem jp{κ:Type}[DecidableEq κ](kvs:eZ (κ×V))(k:κ)(v:V):(putK kvs k v).length<=kvs.length+1:=by
 unfold putK;split;rw[Ad];lia;rw[Aj,Au,DE];lia
theorem lq{κ:Type}[DecidableEq κ]{kvs:eZ (κ×V)}{k:κ}(v:V)(h:valV kvs k=eW):putK kvs k v=kvs++[(k,v)]:=by
 unfold putK;rw[ko,h];exact fD (by decide)
theorem RelO.isSome_eq(r:RelO o u):o.isSome=u.isSome:=by
 cases o with
 |none=>cases u with|none=>rfl|some _=>exact(show False from r).elim
 |some _=>cases u with|none=>exact(show False from r).elim|some _=>rfl
theorem RelO.getD(r:RelO o u)(a:RelV d d'):RelV (o.getD d) (u.getD d'):=by
 cases o with
 |none=>cases u with|none=>exact a|some _=>exact(show False from r).elim
 |some _=>cases u with|none=>exact(show False from r).elim|some _=>exact r
theorem KV.val{κ:Type}[DecidableEq κ]{kvs:eZ (κ×V)}{vs:eZ (κ×IT)}(r:KV kvs vs)(k:κ):RelO (valV kvs k) (valueAt vs k):=by
 unfold KV at r;induction r with
 |nil=>exact True.intro
 | @cons p q ps qs h t ih =>
  let(h1,h2):=h;by_cases e:p.1=k
  . let a:q.1=k:=h1.symm.trans e;let b:valueAt (q::qs) k=eV q.2:=by simp[valueAt,Ba,a]
    rw[il e,b];exact h2
  let a:¬ q.1=k:=λz=>e (h1.trans z);let b:valueAt (q::qs) k=valueAt qs k:=by simp[valueAt,Ba,a]
  rw[iw e,b];exact ih
theorem KV.any{κ:Type}[DecidableEq κ]{kvs:eZ (κ×V)}{vs:eZ (κ×IT)}(r:KV kvs vs)(k:κ):(kvs.any λkv=>decide (kv.1=k))=vs.any λkv=>decide (kv.1=k):=by
 unfold KV at r;induction r with|nil=>rfl|cons h t ih=>rw[Dw,Dw,ih,h.1]
theorem KV.repl{κ:Type}[DecidableEq κ]{kvs:eZ (κ×V)}{vs:eZ (κ×IT)}(r:KV kvs vs)(k:κ){y:V}{u:IT}(a:RelV y u):
 KV (kvs.map λkv=>if kv.1=k then(kv.1,y) else kv) (vs.map λkv=>if kv.1=k then(kv.1,u) else kv):=by
 unfold KV at r |-;induction r with
 |nil=>exact .nil
 | @cons p q ps qs h t ih =>
  rw[A5,A5];refine .cons ?_ ih;let(h1,h2):=h;by_cases e:p.1=k;rw[fE e,fE (h1.symm.trans e)];exact#[h1,a];rw[fD e,fD (λz=>e (h1.trans z))];exact#[h1,h2]
theorem KV.put{κ:Type}[DecidableEq κ]{kvs:eZ (κ×V)}{vs:eZ (κ×IT)}(r:KV kvs vs)(k:κ){y:V}{u:IT}(a:RelV y u):KV (putK kvs k y) (stored vs k u):=by
 unfold putK stored;rw[r.any k];by_cases e:(vs.any λkv=>decide (kv.1=k))=eX;rw[fE e,fE e];exact r.repl k a;rw[fD e,fD e];exact IK r #[fR,a]
theorem KV.drop{κ:Type}[DecidableEq κ]{kvs:eZ (κ×V)}{vs:eZ (κ×IT)}(r:KV kvs vs)(k:κ):KV (kg kvs k) (without vs k):=by
 unfold KV at r |-;unfold kg without;induction r with
 |nil=>exact .nil
 | @cons p q ps qs h t ih =>
  let(h1,h2):=h;rw[Dt,Dt];by_cases e:p.1=k
  . let a:¬ decide (p.1≠k)=eX:=by simp[e]
    let b:¬ decide (q.1≠k)=eX:=by simp[h1.symm.trans e]
    rw[fD a,fD b];exact ih
  let c:¬ q.1=k:=λz=>e (h1.trans z);let a:decide (p.1≠k)=eX:=by simp[e]
  let b:decide (q.1≠k)=eX:=by simp[c]
  rw[fE a,fE b];exact .cons #[h1,h2] ih
theorem KV.keys{κ:Type}[DecidableEq κ]{kvs:eZ (κ×V)}{vs:eZ (κ×IT)}(r:KV kvs vs):kvs.map (·.1)=vs.map (·.1):=by
 unfold KV at r;induction r with|nil=>rfl|cons h t ih=>rw[A5,A5,ih,h.1]
theorem KV.length{κ:Type}[DecidableEq κ]{kvs:eZ (κ×V)}{vs:eZ (κ×IT)}(r:KV kvs vs):kvs.length=vs.length:=A3 r
theorem a9z{κ:Type}[DecidableEq κ](kvs:eZ (κ×V))(k:κ):(kg kvs k).length<=kvs.length:=B4 _ _
end
theorem nb(r:RelV (kV k) u):(i4 P w).is k u=eX:=by
 cases k with|inl i=>let(t,e):=(show ∃t,u=Value.int i t from r);subst e;exact a22 P w i t|inr x=>let(t,e):=(show ∃t,u=Value.str x t from r);subst e;exact a24 P w x t
theorem y9:∀{a:eZ Key}{us:eZ IT},Vals (a.map kV) us->ItemsAre (i4 P w) a us
 |[],_,r=>by rw[BF] at r;cases r;exact .nil
 |k::a,_,r=>by
  rw[A5] at r;cases r with|cons h t=>exact .cons (nb h) (y9 t)
abbrev KT(H:Hp):eZ (eZ Key×V)->eZ (eZ Key×IS×IT)->Prop:=IZ λp q=>p.1=q.1/\H q.2.1=eV (.tup (p.1.map kV))/\RelV p.2 q.2.2
theorem KT.val(r:KT H kvs xs)(k:eZ Key):RelO (valV kvs k) ((atKey xs k).map (·.2)):=by
 induction r with
 |nil=>exact True.intro
 | @cons p q ps qs h t ih =>
  let(h1,_,h2):=h;by_cases e:p.1=k
  . let a:q.1=k:=h1.symm.trans e;let b:atKey (q::qs) k=eV q.2:=by simp[atKey,Ba,a]
    rw[il e,b];exact h2
  let a:¬ q.1=k:=λz=>e (h1.trans z);let b:atKey (q::qs) k=atKey qs k:=by simp[atKey,Ba,a]
  rw[iw e,b];exact ih
theorem KT.repl(r:KT H kvs xs)(k:eZ Key)(a:RelV y u):
 KT H (kvs.map λkv=>if kv.1=k then(kv.1,y) else kv) (xs.map (putAt k u)):=by
 induction r with
 |nil=>exact .nil
 | @cons p q ps qs h t ih =>
  rw[A5,A5];refine .cons ?_ ih;let(h1,h2,h3):=h;unfold putAt;by_cases e:p.1=k;rw[fE e,fE (h1.symm.trans e)];exact#[h1,h2,a];rw[fD e,fD (λz=>e (h1.trans z))];exact#[h1,h2,h3]
theorem KT.put(r:KT H kvs xs)(k:eZ Key)(c:H b=eV (.tup (k.map kV)))(a:RelV y u):
 KT H (putK kvs k y) (storedH xs k b u):=by
 let e:(kvs.any λkv=>decide (kv.1=k))=(atKey xs k).isSome:=by
  rw[ko,(r.val k).isSome_eq,CA]
 unfold putK storedH;rw[e];by_cases q:(atKey xs k).isSome=eX;rw[fE q,fE q];exact r.repl k a;rw[fD q,fD q];exact IK r #[fR,c,a]
theorem KT.keeps(r:KT H kvs xs)(a:∀b ys,H b=eV (.tup ys)->H' b=eV (.tup ys)):KT H' kvs xs :=
 Paired.mapP r λ_ _ z=>#[z.1,a _ _ z.2.1,z.2.2]
theorem acl(ok:HOk P w H h)(e:Rd H a u):ObjOk P w H h a u:=e.ok ok
theorem o7(ok:HOk P w H h)(e:Rd H a (.dK kvs)):kvs.length<=IR/\(a==JI)=eY/\∃vs,KV kvs vs/\h.DictOf (i4 P w) a vs :=
 show ObjOk P w H h a (.dK kvs) from acl ok e
theorem o9(ok:HOk P w H h)(e:H a=eV (.dK kvs)):kvs.length<=IR/\(a==JI)=eY/\∃vs,KV kvs vs/\h.DictOf (i4 P w) a vs:=o7 ok (.inl e)
theorem rp(ok:HOk P w H h)(e:H a=eV (.tup (b.map kV))):(tupleKind (i4 P w)).is h b a:=by
 let(_,its,r,o,h1,h2,n,h3):=(show ObjOk P w H h a (.tup (b.map kV)) from ok a _ e)
 exact#[o,its.toArray,n,h1,h2,h3,by simpa using y9 r]
theorem sw(ok:HOk P w H h)(e:Rd H a (.dT kvs)):kvs.length<=IR/\(a==JI)=eY/\
 ∃xs,KT H kvs xs/\h.DictOfH (tupleKind (i4 P w)) a xs:=by
 let(z,y,xs,r,o,es,ep,h1,h2,h3,c,d):=(show ObjOk P w H h a (.dT kvs) from acl ok e)
 refine#[z,y,xs,r,o,es,ep,h1,h2,h3,c,λx b=>?_,d];let all:∀{l:eZ (eZ Key×V)} {m:eZ (eZ Key×IS×IT)},KT H l m->∀x∈m,(tupleKind (i4 P w)).is h x.1 x.2.1:=by
  intro l m q;induction q with
  |nil=>intro x b;exact nomatch b
  | @cons p q ps qs hq t ih =>
   intro x b;rcases Ak.mp b with e|b;subst e;exact rp ok (by rw[<- hq.1];exact hq.2.1);exact ih x b
 exact all r x b
theorem agd(ok:HOk P w H h)(e:H a=eV (.dT kvs)):kvs.length<=IR/\(a==JI)=eY/\
 ∃xs,KT H kvs xs/\h.DictOfH (tupleKind (i4 P w)) a xs:=sw ok (.inl e)
def DGet(H:Hp)(a:IS)(y:V)(r:fA V):Prop :=
 (∃kvs k,Rd H a (.dK kvs)/\y=kV k/\r=valV kvs k)\/∃kvs k b,Rd H a (.dT kvs)/\y=.ref b/\H b=eV (.tup (k.map kV))/\r=valV kvs k
def DPut(H:Hp)(a:IS)(y v:V)(H':Hp):Prop :=
 (∃kvs k,H a=eV (.dK kvs)/\y=kV k/\kvs.length<IR/\H'=upd H a (.dK (putK kvs k v)))\/
 ∃kvs k b,H a=eV (.dT kvs)/\y=.ref b/\H b=eV (.tup (k.map kV))/\kvs.length<IR/\H'=upd H a (.dT (putK kvs k v))
theorem DGet.k{H:Hp}{a:IS}{kvs:eZ (Key×V)}{k:Key}(e:H a=eV (.dK kvs)):DGet H a (kV k) (valV kvs k):=.inl #[kvs,k,.inl e,fR,fR]
theorem DGet.t{H:Hp}{a b:IS}{kvs:eZ (eZ Key×V)}{k:eZ Key}(e:H a=eV (.dT kvs))(c:H b=eV (.tup (k.map kV))):DGet H a (.ref b) (valV kvs k):=.inr #[kvs,k,b,.inl e,fR,c,fR]
theorem DPut.k{H:Hp}{a:IS}{kvs:eZ (Key×V)}{k:Key}{v:V}(e:H a=eV (.dK kvs))(hl:kvs.length<IR):DPut H a (kV k) v (upd H a (.dK (putK kvs k v))):=.inl #[kvs,k,e,fR,hl,fR]
theorem DPut.t{H:Hp}{a b:IS}{kvs:eZ (eZ Key×V)}{k:eZ Key}{v:V}(e:H a=eV (.dT kvs))(c:H b=eV (.tup (k.map kV)))(hl:kvs.length<IR):
 DPut H a (.ref b) v (upd H a (.dT (putK kvs k v))):=.inr #[kvs,k,b,e,fR,c,hl,fR]
theorem Inv.big(I:Inv X a σ H s):JI<s.heap.objs.size:=by
 let h:IY<s.heap.objs.size:=(I.mod.glob.keeps I.bk).lt;exact DK (by decide) h
theorem a7r(r:A.units+1<cLine)(I:Inv X f σ H s)(g:DGet H a y (eV v))(n:RelV y u)(h:∀d s',Inv X f σ H s'->RelV v d->Q d s'):
 IU (IV X.prog X.w) A (getItem (.ref a) u) Q E s:=by
 rcases g with⟨kvs,k,e,i,l⟩|⟨kvs,k,b,e,i,q,l⟩
 . subst i;let(z,hd,vs,rel,dd):=o7 I.hok e;let(d,m,c):=RelO.some_of (v:=v) (o:=valueAt vs k) (by rw[l];exact rel.val k);exact wpAny_getItem_of (nb n) dd.mapOf m (h d _ (I.tok _) c)
 subst i;cases(show u=Value.ref b from n);let(z,hd,xs,rel,dd):=sw I.hok e;let(d,m,c):=RelO.some_of (v:=v) (o:=(atKey xs k).map (·.2)) (by rw[l];exact rel.val k);let(p,hp,j):=DX.mp m;refine wpAny_getItem_heap (CT r) (rp I.hok q) dd hp ?_;rw[j];exact h d _ (I.tok _) c
theorem d_in(j:A.units+1<cLine)(I:Inv X c σ H s)(g:DGet H a y o)(f:RelV y u)(h:∀s',Inv X c σ H s'->Q (.bool o.isSome) s'):
 IU (IV X.prog X.w) A (JD .In u (.ref a)) Q E s:=by
 rcases g with⟨kvs,k,e,d,l⟩|⟨kvs,k,b,e,d,i,l⟩
 . subst d;let(z,hd,vs,rel,dd):=o7 I.hok e;refine wpAny_in_of (nb f) hd dd.mapOf ?_;rw[<- (rel.val k).isSome_eq,<- l];exact h _ (I.tok _)
 subst d;cases(show u=Value.ref b from f);let(z,hd,xs,rel,dd):=sw I.hok e;refine wpAny_in_heap (CT j) (rp I.hok i) hd dd ?_;let q:=(rel.val k).isSome_eq;rw[CA] at q;rw[<- q,<- l];exact h _ (I.tok _)
theorem a2i(j:A.units+1<cLine)(I:Inv X c σ H s)(g:DGet H a y o)(f:RelV y u)(h:∀s',Inv X c σ H s'->Q (.bool (!o.isSome)) s'):
 IU (IV X.prog X.w) A (JD .NotIn u (.ref a)) Q E s:=by
 rcases g with⟨kvs,k,e,d,l⟩|⟨kvs,k,b,e,d,i,l⟩
 . subst d;let(z,hd,vs,rel,dd):=o7 I.hok e;refine wpAny_notIn_of (nb f) hd dd.mapOf ?_;rw[<- (rel.val k).isSome_eq,<- l];exact h _ (I.tok _)
 subst d;cases(show u=Value.ref b from f);let(z,hd,xs,rel,dd):=sw I.hok e;refine wpAny_notIn_heap (CT j) (rp I.hok i) hd dd ?_;let q:=(rel.val k).isSome_eq;rw[CA] at q;rw[<- q,<- l];exact h _ (I.tok _)
theorem nj(I:Inv X c σ H s)(f:Mut (H a))(g:BE a s.heap h')(h:∃q,h'.get? a=eV q)(new:ObjOk X.prog X.w (upd H a ob) h' a ob):
 Inv X c σ (upd H a ob) {s with heap:=h',toks:=t'} :=
 I.write (x:=a) (e:=a) f (.inl rfl) (λb q d z=>(g.2 b d).trans z) h new
theorem ph(z:kvs.length<=IR)(hd:(a==JI)=eY)(rel:KV kvs vs)(dd:h'.DictOf (i4 P w) a vs):
 ObjOk P w H' h' a (.dK kvs):=#[z,hd,vs,rel,dd]
theorem a6n(C:A.units+1<cLine)(I:Inv X f σ H s)(g:DPut H a y v H')(p:RelV y u)(x:RelV v r)(h:∀s',Inv X f σ H' s'->Q () s'):
 IU (IV X.prog X.w) A (setItem (.ref a) u r) Q E s:=by
 rcases g with⟨kvs,k,e,n,l,j⟩|⟨kvs,k,b,e,n,t,l,j⟩
 . subst n j;let(z,hd,vs,rel,dd):=o9 I.hok e;let hz:vs.length<=IR:=by rw[<- rel.length];exact z
   let hl:(putK kvs k v).length<=IR:=by let:=jp kvs k v;lia
   refine wpAny_setItem_pairs (hsz:=hz) (nb p) dd λh' d m=>h _ ?_;let F:∃q,h'.get? a=eV q:=let ⟨q,_,_,i,_⟩:=d;#[q,i];exact nj I (by rw[e];exact True.intro) m F (ph hl hd (rel.put k x) d)
 subst n j;cases(show u=Value.ref b from p);let(z,hd,xs,rel,dd):=agd I.hok e;let hz:xs.length<=IR:=by rw[<- A3 rel];exact z
 let hl:(putK kvs k v).length<=IR:=by let:=jp kvs k v;lia
 refine wpAny_setItem_heap (hsz:=hz) (CT C) (rp I.hok t) dd λh' d m=>h _ ?_;let(q,es,ep,i,h2,h3,D,_,B):=d;refine nj I (by rw[e];exact True.intro) m #[q,i] #[hl,hd,_,(rel.put k t x).keeps λc ys o=>?_,q,es,ep,i,h2,h3,D,B];rw[fh (jb o e (λz=>nomatch z))];exact o
theorem abx(I:Inv X b σ H s)(e:H a=eV (.dK kvs))(g:RelV (kV k) u)(l:valV kvs k=eV v)(hm:more=[]\/∃x,more=[x])(h:∀d s',Inv X b σ (upd H a (.dK (kg kvs k))) s'->RelV v d->Q d s'):IU (IV X.prog X.w) A (call (.builtin "dict.pop") (.ref a::u::more)) Q E s:=by
 let(z,hd,vs,rel,dd):=o9 I.hok e;let(d,j,f):=RelO.some_of (v:=v) (o:=valueAt vs k) (by rw[<- l];exact rel.val k);let hp:(keyPart u).isSome=eX:=by
  cases k with|inl i=>let(t,q):=(show ∃t,u=Value.int i t from g);subst q;rfl|inr x=>let(t,q):=(show ∃t,u=Value.str x t from g);subst q;rfl
 let p:argsOk "dict.pop" #[.ref a::u::more,[]]:=by
  rcases hm with q|⟨x,q⟩;subst q;exact PySem.F.args_dict_pop_2 _ _;subst q;exact Fy _ _ _
 refine DL Di dd.typeIs FK p (meets_dict_pop_there (i4 X.prog X.w) a (nb g) more hm hp)
  #[vs,d,dd,by rw[<- rel.length];exact z,j,λh' c m=>h d _ ?_ f]
 let n:∃q,h'.get? a=eV q:=let ⟨q,_,_,hq,_⟩:=c;#[q,hq];exact nj I (by rw[e];exact True.intro) m n (ph (AA (a9z kvs k) z) hd (rel.drop k) c)
theorem afv(I:Inv X b σ H s)(e:H a=eV (.dK kvs))(c:RelV (kV k) u)(l:valV kvs k=eW)(h:∀s',Inv X b σ H s'->Q r s'):
 IU (IV X.prog X.w) A (call (.builtin "dict.pop") [.ref a,u,r]) Q E s:=by
 let(z,hd,vs,rel,dd):=o9 I.hok e;let hn:valueAt vs k=eW:=RelO.none_of (by rw[<- l];exact rel.val k);let hp:(keyPart u).isSome=eX:=by
  cases k with|inl i=>let(t,q):=(show ∃t,u=Value.int i t from c);subst q;rfl|inr x=>let(t,q):=(show ∃t,u=Value.str x t from c);subst q;rfl
 exact DL Di dd.typeIs FK (Fy _ _ _) (meets_dict_pop_default (i4 X.prog X.w) a (nb c) hd hp r) #[vs,dd,hn,h _ (I.tok _)]
theorem ag8(I:Inv X b σ H s)(e:Rd H a (.dK kvs))(h:∀t s',Inv X b σ H s'->Q (.int kvs.length t) s'):IU (IV X.prog X.w) A (call (.builtin "len") [.ref a]) Q E s:=by
 let(z,hd,vs,rel,dd):=o7 I.hok e;refine call_len_dict hd dd (by rw[<- rel.length];rw[D3] at z;lia) ?_;rw[<- rel.length];exact h _ _ (I.tok _)
def NoSl(i:Expr):Prop:=∀ov iv,subscripted i eY ov iv=operate [ov,iv] (getItem ov iv)
theorem aed{id:String}(hl:typeLookup (.type T) "__getitem__"=pure (eV (.builtin id)))(k:NoSl a)(h:IU (IV prog w) A (eval value env) (λo f=>IU (IV prog w) A (eval a env) (λi c=>c.TypeIs o T/\IU (IV prog w) A (getItem o i) Q E c) E f) E s):
 IU (IV prog w) A (eval (.Subscript value a pos) env) Q E s:=by
 refine Subscript_ (B2 h (λo f j=>B2 j (λi c d=>?_) λ_ _ x=>x) λ_ _ x=>x);let(g,d):=d;unfold subscriptTail;refine Ac ?_;rw[getitemInPython_of_ne g.not_modules];refine Ac (Es g hl ?_);let b:IU (IV prog w) A (subscripted a eY o i) (λr e=>IU (IV prog w) A (letTemporaryGo value o r>>=λ_=>pure r) Q E e) E c:=by
  rw[k o i];exact wpAny_operating (B2 d (λr e l=>Ac (wpAny_letTemporaryGo (Al l))) λ_ _ x=>x)
 first
  |exact Al (Ac b)
  |exact Ac (Al (Ac b))
  |exact Ac b
theorem a25(I:Inv X c σ H s)(g:DGet H a y o):s.TypeIs (.ref a) "dict" := by
 rcases g with⟨kvs,k,e,_,_⟩|⟨kvs,k,b,e,_,_,_⟩
 . let(_,_,vs,_,dd):=o7 I.hok e;exact dd.typeIs
 let(_,_,xs,_,dd):=sw I.hok e;exact dd.typeIs
inductive tDGetS(x y:V)(H2:Hp)(Q:VK):Prop
 |mk (a:IS)(v:V)(h0:x=.ref a)(h1:DGet H2 a y (eV v))(h2:Q v H2):tDGetS x y H2 Q
def abh(td ty:TE):TE:=fun σ H Q=>td σ H λx H1=>ty σ H1 λy H2=>tDGetS x y H2 Q
inductive tDInS(x y:V)(H2:Hp)(Q:VK):Prop
 |mk (a:IS)(o:fA V)(h0:x=.ref a)(h1:DGet H2 a y o)(h2:Q (.bl o.isSome) H2):tDInS x y H2 Q
def tDIn(ty td:TE):TE:=fun σ H Q=>ty σ H λy H1=>td σ H1 λx H2=>tDInS x y H2 Q
def ui(ty td:TE):TE:=fun σ H Q=>ty σ H λy H1=>td σ H1 λx H2=>∃a o,x=.ref a/\DGet H2 a y o/\Q (.bl (!o.isSome)) H2
inductive sDPutS(D:Ends)(σ:St)(v x y:V)(H3:Hp):Prop
 |mk (a:IS)(H4:Hp)(h0:x=.ref a)(h1:DPut H3 a y v H4)(h2:D.nx σ H4):sDPutS D σ v x y H3
def ace(td ty tv:TE):TS:=λD σ H=>tv σ H λv H1=>td σ H1 λx H2=>ty σ H2 λy H3=>sDPutS D σ v x y H3
theorem ad2(l:X.A.units+1<cLine)(f:PE X o td)(hi:PE X i ty)(p:NoSl i):PE X (.Subscript o i pos) (abh td ty):=by
 intro b s σ H Q I h;refine aed PySem.F.slot_dict_getitem.lookup p (thn (f b s σ H _ I h) λu s1 #[x,r,q,e,k]=>thn (hi b s1 σ r _ q k) λD C t=>?_);let(y,j,d,m,a,v,ex,g,w):=t;subst ex;obtain rfl:u=Value.ref a:=e;exact#[a25 d g,a7r l d g m λB z n c=>#[v,j,n,c,w]]
theorem a5p(k:X.A.units+1<cLine)(hi:PE X i ty)(e:PE X o td):PC X .In i o (tDIn ty td):=by
 intro b s σ H Q I h;refine thn (hi b s σ H _ I h) λz s1 #[y,q,p,l,j]=>thn (e b s1 σ q _ p j) λu w r=>?_;let(x,f,c,d,a,n,ex,g,t):=r;subst ex;obtain rfl:u=Value.ref a:=d;exact d_in k c g l λv m=>#[.bl n.isSome,f,m,fR,t]
theorem yc(hu:X.A.units+1<cLine)(hi:PE X i ty)(ho:PE X o td):PC X .NotIn i o (ui ty td):=by
 intro pins s σ H Q I h;refine thn (hi pins s σ H _ I h) λiv s1 #[y,H1,I1,ry,q1]=>thn (ho pins s1 σ H1 _ I1 q1) λu s2 zq=>?_;let(x,H2,I2,rx,a,ov,ex,g,q2):=zq;subst ex;obtain rfl:u=Value.ref a:=rx;exact a2i hu I2 g ry λs3 I3=>#[.bl (!ov.isSome),H2,I3,fR,q2]
theorem adm(n:X.A.units+1<cLine)(k:PE X o td)(hi:PE X i ty)(hv:PE X value f)(t:JN value (eV (.Subscript o i c)) pos.line X.env=pure eY):
 PS X (.Assign [.Subscript o i c] value pos) (ace td ty f):=by
 intro b s σ H D I h;refine wpAny_Assign_Subscript (thn (hv b s σ H _ I h) λr s1 #[v,E,C,w,m]=>thn (k b s1 σ E _ C m) λu z #[x,l,d,j,G]=>thn (hi b z σ l _ d G) λN J #[y,M,q,p,a,e,ex,g,B]=>?_) t;subst ex;obtain rfl:u=Value.ref a:=j;exact a6n n q g p w λL F=>#[σ,e,F,B]
theorem vk(h:JG)(a:JI<h.objs.size):ObjOk P w H (h.push {cls:=.type "dict",data:=.dict [].toArray}) h.objs.size (.dK []) :=
 #[AF _,beq_eq_false_iff_ne.mpr (AE (AB a)),[],.nil,Heap.DictOf.new h]
theorem a9n(h:JG)(a:JI<h.objs.size):ObjOk P w H (h.push {cls:=.type "dict",data:=.dict [].toArray}) h.objs.size (.dT []) :=
 #[AF _,beq_eq_false_iff_ne.mpr (AE (AB a)),[],.nil,_,[].toArray,0,Ay _ rfl,#[fR,fR,fR],fR,fR,Bh]
def a71:TE:=λ_ H Q=>∀p,H p=eW->Q (.ref p) (upd H p (.dK []))
def a5o:TE:=λ_ H Q=>∀p,H p=eW->Q (.ref p) (upd H p (.dT []))
theorem a8u:PE X (.Dict [] [] pos) a71:=λb s σ H Q I h =>
 HK #[.ref s.heap.objs.size,_,I.laid (a:=s.heap.objs.size) (o:=.dK []) (t':=s.toks) (λ_ _ q=>Ai _ q) (An _) (vk s.heap I.big),fR,h _ (I.hok.fresh (An _))]
theorem aa7:PE X (.Dict [] [] pos) a5o:=λb s σ H Q I h =>
 HK #[.ref s.heap.objs.size,_,I.laid (a:=s.heap.objs.size) (o:=.dT []) (t':=s.toks) (λ_ _ q=>Ai _ q) (An _) (a9n s.heap I.big),fR,h _ (I.hok.fresh (An _))]
def a1e:eZ (TE×TE)->St->Hp->(eZ (V×V)->Hp->Prop)->Prop
 |[],_,H,Q=>Q [] H
 | (tk,tv)::r,σ,H,Q=>tk σ H λx H1=>tv σ H1 λy H2=>a1e r σ H2 λps H3=>Q ((x,y)::ps) H3
abbrev VV:eZ (V×V)->eZ (IT×IT)->Prop:=IZ λp q=>RelV p.1 q.1/\RelV p.2 q.2
def PPs(X:Cx)(pos:Pos)(keys:eZ (fA Expr))(values:eZ Expr)(trs:eZ (TE×TE)):Prop :=
 ∀(pins:eZ (IS×Obj)) (s:IX) (σ:St) (H:Hp) (Q:eZ (V×V)->Hp->Prop),Inv X pins σ H s->a1e trs σ H Q->
   IU (IV X.prog X.w) X.A (evalPairs (pairTrees keys values X.env pos)) (λvs s'=>∃ps H',Inv X pins σ H' s'/\VV ps vs/\Q ps H') X.xe s
theorem xi:PPs X pos [] [] []:=λa s σ H Q I h=>pairTrees_nil_walk #[[],H,I,.nil,h]
theorem nt(n:PE X k tk)(hv:PE X v d)(i:PPs X pos l vs b):
 PPs X pos (eV k::l) (v::vs) ((tk,d)::b):=λa s σ H Q I h =>
 pairTrees_cons_walk (thn (n a s σ H _ I h) λu s1 #[x,t,r,e,g]=>thn (hv a s1 σ t _ r g) λA p #[y,f,c,j,w] =>
  thn (i a p σ f _ c w) λB z #[ps,o,m,rel,q]=>#[(x,y)::ps,o,m,.cons #[e,j] rel,q])
def jd(kvs more:eZ (Key×V)):eZ (Key×V):=more.foldl (λacc kv=>putK acc kv.1 kv.2) kvs
theorem KV.merge:∀{more:eZ (Key×V)}{rs:eZ (Key×IT)}{kvs:eZ (Key×V)}{vs:eZ (Key×IT)},KV more rs->KV kvs vs->KV (jd kvs more) (merged vs rs):=by
 intro more rs kvs vs r;unfold KV at r;induction r generalizing kvs vs with
 |nil=>intro q;exact q
 | @cons p q ps qs h t ih =>
  intro a;let e:KV (putK kvs p.1 p.2) (stored vs q.1 q.2):=by
   let:=a.put p.1 h.2;rw[<- h.1];exact this
  exact ih e
theorem oo:∀(more kvs:eZ (Key×V)),(jd kvs more).length<=kvs.length+more.length
 |[],kvs=>by show kvs.length<=kvs.length+0;lia
 |p::r,kvs=>by
  let h1:=oo r (putK kvs p.1 p.2);let h2:=jp kvs p.1 p.2;show(jd (putK kvs p.1 p.2) r).length<=_;rw[Au];lia
theorem wh:∀{kvs:eZ (Key×V)}{d:eZ (IT×IT)},VV (kvs.map λkv=>(kV kv.1,kv.2)) d->∃rs,Carries (i4 P w) d rs/\KV kvs rs
 |[],_,r=>by rw[BF] at r;cases r;exact#[[],True.intro,.nil]
 |p::kvs,_,r=>by
  rw[A5] at r;cases r with
  | @cons a b as bs h t =>
   let(rs,c,q):=wh (P:=P) (w:=w) t;let(f,e):=b;exact#[(p.1,e)::rs,#[nb h.1,fR,c],.cons #[fR,h.2] q]
def zu(trs:eZ (TE×TE)):TE:=fun σ H Q=>∀p,H p=eW->a1e trs σ (upd H p (.dK [])) λps H2=>H2 p=eV (.dK [])/\∃kvs:eZ (Key×V),ps=kvs.map (λkv=>(kV kv.1,kv.2))/\kvs.length<=15/\Q (.ref p) (upd H2 p (.dK (jd [] kvs)))
theorem xx(h:PPs X pos keys b i)(g:keys.all (·.isSome)=eX)(hl:keys.length=b.length)(l:keys≠[])(j:keys.length<=15):PE X (.Dict keys b pos) (zu i):=by
 intro d s σ H Q I q;let hn:=I.hok.fresh (An s.heap.objs.size);let u:=I.laid (a:=s.heap.objs.size) (o:=.dK []) (h':=s.heap.push {cls:=.type "dict",data:=.dict [].toArray}) (t':=s.toks) (λ_ _ q=>Ai _ q) (An _) (vk s.heap I.big);refine wpAny_Dict_walk (knd:=i4 X.prog X.w) g hl l j (thn (h d _ σ _ _ u (q _ hn)) λB C v=>?_);let(ps,y,k,rel,e,kvs,ep,A,x):=v;subst ep;let(rs,c,p):=wh (P:=X.prog) (w:=X.w) rel;let(z,hd,r,m,dd):=o9 k.hok e;cases m;refine#[rs,c,dd,λh' f n=>#[.ref s.heap.objs.size,_,?_,fR,x]];let hz:(jd [] kvs).length<=IR:=by
  let h1:=oo kvs [];rw[DE] at h1;rw[D3];lia
 let t:∃q,h'.get? s.heap.objs.size=eV q:=let ⟨q,_,_,hq,_⟩:=f;#[q,hq];exact nj k (by rw[e];exact True.intro) n t (ph hz hd (p.merge .nil) f)
structure M1(X:Cx)(o:Expr)(m:fS)(apos:Pos)(e:Expr)(cpos:Pos):Prop where
 base:JJ o m X.env (eval o X.env)=eval o X.env
 few:((JF cpos (IW [e] X.env)).all (λx => !x.1) && (JY cpos (JP [] X.env)).all (λx=>x.1.isSome)
  && decide (([e]:eZ Expr).length+([]:eZ Keyword).length+(if([]:eZ Keyword).isEmpty then 0 else 1)<30))=eX
 line:(apos.endLine==cpos.line)=eX
 trees:JF cpos (IW [e] X.env)=[(eY,eval e X.env)]
structure M2(X:Cx)(o:Expr)(m:fS)(apos:Pos)(e f:Expr)(cpos:Pos):Prop where
 base:JJ o m X.env (eval o X.env)=eval o X.env
 few:((JF cpos (IW [e,f] X.env)).all (λx => !x.1) && (JY cpos (JP [] X.env)).all (λx=>x.1.isSome)
  && decide (([e,f]:eZ Expr).length+([]:eZ Keyword).length+(if([]:eZ Keyword).isEmpty then 0 else 1)<30))=eX
 line:(apos.endLine==cpos.line)=eX
 trees:JF cpos (IW [e,f] X.env)=[(eY,eval e X.env),(eY,eval f X.env)]
def IsD(H:Hp)(a:IS):Prop:=(∃kvs,Rd H a (.dK kvs))\/∃kvs,Rd H a (.dT kvs)
theorem u5(I:Inv X c σ H s)(d:IsD H a):
 s.TypeIs (.ref a) "dict" /\ (∀b,Value.ref a=.ref b->∃ob,s.heap.get? b=eV ob/\ob.dict=eW)/\(a==JI)=eY:=by
 rcases d with⟨kvs,e⟩|⟨kvs,e⟩
 . let(_,hd,vs,_,dd):=o7 I.hok e;refine#[dd.typeIs,λb q=>?_,hd];cases q;let(ob,_,_,h1,h2,_):=dd;exact#[ob,h1,h2.2.1]
 let(_,hd,xs,_,dd):=sw I.hok e;refine#[dd.typeIs,λb q=>?_,hd];cases q;let(ob,_,_,h1,h2,_):=dd;exact#[ob,h1,h2.2.1]
theorem aei(p:A.units+1<cLine)(I:Inv X c σ H s)(g:DGet H a y o)(i:RelV y u)(j:RelV d r)(h:∀m s',Inv X c σ H s'->RelV (o.getD d) m->Q m s'):
 IU (IV X.prog X.w) A (call (.builtin "dict.get") [.ref a,u,r]) Q E s:=by
 rcases g with⟨kvs,k,e,f,l⟩|⟨kvs,k,b,e,f,n,l⟩
 . subst f;let(z,hd,vs,rel,dd):=o7 I.hok e;refine DL Eb dd.typeIs FL (Fz _ _ _) (meets_dict_get_default (i4 X.prog X.w) a (nb i) hd r) #[_,dd.mapOf,h _ _ (I.tok _) ?_];rw[l];exact(rel.val k).getD j
 subst f;cases(show u=Value.ref b from i);let(z,hd,xs,rel,dd):=sw I.hok e;refine DL Eb dd.typeIs FL (Fz _ _ _) (meetsH_dict_get_default (tupleKind (i4 X.prog X.w)) a b hd r) #[CT p,k,xs,rp I.hok n,dd,h _ _ (I.tok _) ?_];rw[l];exact(rel.val k).getD j
def a5d(td ty tx:TE):TE:=fun σ H Q=>td σ H λx H1=>∃a,x=.ref a/\IsD H1 a/\ty σ H1 λy H2=>tx σ H2 λz H3=>∃o,DGet H3 a y o/\Q (o.getD z) H3
def a8b(td ty:TE):TE:=fun σ H Q=>td σ H λx H1=>∃a,x=.ref a/\IsD H1 a/\ty σ H1 λy H2=>∃kvs k v,H2 a=eV (.dK kvs)/\y=kV k/\valV kvs k=eV v/\Q v (upd H2 a (.dK (kg kvs k)))
def a66(td ty tx:TE):TE:=fun σ H Q=>td σ H λx H1=>∃a,x=.ref a/\IsD H1 a/\ty σ H1 λy H2=>tx σ H2 λz H3=>∃kvs k,H3 a=eV (.dK kvs)/\y=kV k/\
 (∀v,valV kvs k=eV v->Q v (upd H3 a (.dK (kg kvs k))))/\(valV kvs k=eW->Q z H3)
theorem a8v(t:X.A.units+1<cLine)(p:PE X o td)(L:PE X e ty)(O:PE X f D)(m:M2 X o "get" i e f c):PE X (.Call (.Attribute o "get" i) [e,f] [] c) (a5d td ty D):=by
 intro b s σ H Q I h;refine Df m.base m.few m.line Cj Eb PySem.F.type_dict_get (thn (p b s σ H _ I h) λu s1 R=>?_);let(x,M,k,n,a,ex,d,r):=R;subst ex;obtain rfl:u=Value.ref a:=n;let(P,v,_):=u5 k d;exists P,v;rw[m.trees];refine BJ rfl (BV (B8 (thn (L b s1 σ M _ k r) λiv G #[y,q,l,w,S] =>
  B8 (thn (O b G σ q _ l S) λW T #[z,E,C,B,Y,g,J]=>Cg ?_))))
 exact aei t C g w B λU Z N j=>#[_,E,N,j,J]
theorem a9p(p:PE X o td)(A:PE X e ty)(m:M1 X o "pop" f e c):PE X (.Call (.Attribute o "pop" f) [e] [] c) (a8b td ty):=by
 intro b s σ H Q I h;refine Df m.base m.few m.line Cj Di FX (thn (p b s σ H _ I h) λu s1 E=>?_);let(x,B,i,n,a,ex,d,q):=E;subst ex;obtain rfl:u=Value.ref a:=n;let(D,r,_):=u5 i d;exists D,r;rw[m.trees];refine BJ rfl (BV (B8 (thn (A b s1 σ B _ i q) λO N #[y,L,j,t,kvs,k,v,C,z,l,G]=>Cg ?_)));subst z;exact abx j C t l (.inl rfl) λM J w g=>#[v,_,w,g,G]
theorem a9h(B:PE X o td)(S:PE X e ty)(U:PE X f L)(m:M2 X o "pop" g e f c):PE X (.Call (.Attribute o "pop" g) [e,f] [] c) (a66 td ty L):=by
 intro b s σ H Q I h;refine Df m.base m.few m.line Cj Di FX (thn (B b s σ H _ I h) λu s1 Y=>?_);let(x,T,q,A,a,ex,d,D):=Y;subst ex;obtain rfl:u=Value.ref a:=A;let(W,E,_):=u5 q d;exists W,E;rw[m.trees];refine BJ rfl (BV (B8 (thn (S b s1 σ T _ q D) λiv P #[y,C,t,n,Z] =>
  B8 (thn (U b P σ C _ t Z) λJ s3 #[z,N,p,G,kvs,k,r,O,R,w]=>Cg ?_))))
 subst O;cases l:valV kvs k with|some v=>exact abx p r n l (.inr #[J,fR]) λw' M j i=>#[v,_,j,i,R v l]|none=>exact afv p r n l λM j=>#[z,N,j,G,w l]
theorem aav(I:Inv X c σ H s)(e:Rd H a (.dK kvs))(h:∀p s',H p=eW->Inv X c σ (upd H p (.dK kvs)) s'->Q (.ref p) s'):IU (IV X.prog X.w) A (call (.type "dict") [.ref a]) Q E s:=by
 let(z,hd,vs,rel,dd):=o7 I.hok e;refine kt_call_dict hd dd (by rw[<- rel.length];exact z) λh' d g=>?_;refine h _ _ (I.hok.fresh (An _)) (I.laid (a:=s.heap.objs.size) (o:=.dK kvs) (t':=s.toks) (λb q f=>?_) (An _) (ph z (beq_eq_false_iff_ne.mpr (AE (AB I.big))) rel d));exact(g.2 b (AB (Az f))).trans (Ai _ f)
theorem om:kb X (.builtin "len") (λxs H Q=>∃a kvs,xs=[V.ref a]/\H a=eV (.dK kvs)/\Q (.int kvs.length) H):=by
 intro b s σ H xs us Q I r h;let(a,kvs,rfl,d,q):=h;let(u,rfl,e):=ux r;cases e;exact ag8 I (.inl d) λt s' c=>#[.int kvs.length,H,c,#[t,fR],q]
section
theorem xu{κ:Type}[DecidableEq κ]{kvs:eZ (κ×V)}{k:κ}{v:V}(h:valV kvs k=eV v):k∈kvs.map (·.1):=by
 let q:(kvs.any λkv=>decide (kv.1=k))=eX:=by
  rw[ko,h]
  all_goals rfl
 let(p,hp,e):=AV.mp q;exact As.mpr #[p,hp,fV e]
variable{κ:Type}[DecidableEq κ] in
theorem xm:∀{l:eZ κ}{k:κ},l.Nodup->¬ k∈l->(l++[k]).Nodup
 |[],k,_,_=>by simp
 |a::r,k,h,hk=>by
  let(h1,h2):=AK.mp h;show(a::(r++[k])).Nodup;refine AK.mpr #[λm=>?_,xm h2 λm=>hk (Ak.mpr (Or.inr m))];rcases Ab.mp m with q|q;exact h1 q;exact hk (Ak.mpr (Or.inl (Ae.mp q).symm))
variable{κ:Type}[DecidableEq κ] in
variable{κ:Type}[DecidableEq κ] in
variable{κ:Type}[DecidableEq κ] in
end
theorem PS.nox{st:JA}(h:PS X.nox st t):PS X st t:=λa s σ H D I b =>
 B2 (h a s σ H D (I.wish _) b) (λ_ _ q=>q.unwish) λ_ _ z=>BS z
theorem af7{st:JA}(h:QS X.nox st t):QS X st t:=#[PS.nox h.run]
def ael(K:Aa)(ta:TE):TT:=fun σ H Q=>ta σ H λx H'=>∃k,TruV K x H' k/\Q k H'
theorem vx{K:Aa}(c:QE X e d)(b:autoParam (X.K=K) a4_)(a:autoParam (∀whole,isTrue e X.env whole=(do let v<-whole;standAt e.pos;holding [v] (truthy v))) a3_):QT X e (ael K d):=by
 subst b;exact#[a95 c.run a]
theorem Fun.okEQ{K:Aa}{st:JA}(F:Fun K x b st f fd)(S:FnScope N ps (i8 st))(len:∀vs H Q E,sp vs H Q E->vs.length=ps.length)(c:∀(a:IT) (A:JW) (outer:eZ Env) (s:IX) (H:Hp) (vs:eZ V) (Q:VK) (E:XK),Room k (A.deeper (envOfC b (i8 st) s.heap.objs.size f a))->sp vs H Q E->
 ∃t,QB (cxOf (CXE P w base) P w K mg base N b (i8 st) f a A outer s H E) (lh st) t/\let D:Ends:={nx:=λ_ H'=>Q .non H',rt:=Q};let σ:=start N vs;t D σ H):FnOk P w K mg base (CXE P w base) (k+1) f fd ps sp:=by
 let(m,od,kV,j,pm,l,a,ct,g,rfl,h,e):=F.ex;exact ack h e S len λA outer s H vs Q E i d=>by
  let(t,h1,h2):=c a A outer s H vs Q E i d;exact#[t,h1.run,h2]
section
set_option relaxedAutoImplicit true
theorem jv{id:String}{K:Aa}(h:X.K=K)(g:PlainAttrs T)(slot:Slot T name id)(f:typeOf (.builtin id)=pure (.type "method_descriptor"))(hm:MtR X id r)(j:QE X o to)(k:QA X (e::es) t)(b:autoParam (JJ o name X.env (eval o X.env)=eval o X.env) a4_)(d:autoParam (((JF cpos (IW (e::es) X.env)).all (λx => !x.1) && (JY cpos (JP [] X.env)).all (λx=>x.1.isSome)       && decide ((e::es).length+([]:eZ Keyword).length+(if([]:eZ Keyword).isEmpty then 0 else 1)<30))=eX) a4_)(c:autoParam ((apos.endLine==cpos.line)=eX) a4_)(i:autoParam (IW (e::es) X.env=(eY,eval e X.env)::IW es X.env) a4_)(a:autoParam ((JF cpos (IW es X.env)).any (·.1)=eY) a4_):QE X (.Call (.Attribute o name apos) (e::es) [] cpos) (tBM K T r to t):=by
 subst h;exact#[abq g slot f hm j.run k.run b d c i a]
end
theorem Inv.turnedL{ch:eZ IS}(I:Inv X a σ H s)(k:∀b o,b∉ch->s.heap.get? b=eV o->h'.get? b=eV o)(d:∀b∈ch,FpOk X a H b):Inv X a σ H {s with heap:=h',toks:=t'}:=by
 let f:∀b u,H b=eV u->b∉ch:=λb u e z=>by rw[(d b z).1] at e;cases e
 refine I.step (g':=s.gens) (d':=s.drawn) (ch:=ch) (λb g=>#[(d b g).2.2.2.1,(d b g).2.1,(d b g).2.2.2.2.1,(d b g).2.2.2.2.2]) (λb o _ _ hn e _=>k b o hn e) (λb o _ _ hn e _=>#[o.slots,k b o hn e]) (λ_ _ _ _ n=>n)
  (λb o hn e=>#[o,k b o hn e]) (λ_ _ e=>e) (λ_ _ _ e=>e) (λb ps e=>#[[].toArray,by rw[e];simp]) (λm hm=>?_) (λb u e=>?_) I.bare
 . let(o,es,ep,i,r):=hm;exact#[o,es,ep,k _ o (λz=>(d _ z).2.1 rfl) i,r]
 refine(I.hok b u e).stay (λc v h q=>k c v ?_ q) (λ_ q=>q) λ_ _ q=>q;rcases h with z|z;rw[z];exact f b u e;exact f c _ z
def jz(n:IS):eZ IS:=[n+4,n+2,n+3,n,n+1]
theorem v6{n d e:fC}(h1:d∉jz n)(h2:e∉jz n):ZipApart (n+4) (n+2) (n+3) n (n+1) d e:=by
 unfold jz at h1 h2;simp only[Ak,Aq,gD,not_or] at h1 h2;let nn:∀a b:fC,a≠b->n+a≠n+b:=λa b h=>by lia
 let c:∀a:fC,a≠0->n≠n+a:=λa h=>by lia
 exact#[nn 2 4 (by decide),nn 3 4 (by decide),c 4 (by decide),nn 1 4 (by decide),nn 2 3 (by decide),(c 2 (by decide)).symm,nn 2 1 (by decide),(c 3 (by decide)).symm,nn 3 1 (by decide),c 1 (by decide),h1.1,h1.2.2.1,h1.2.2.2.1,h1.2.2.2.2,h2.1,h2.2.2.1,h2.2.2.2.1,h2.2.2.2.2]
theorem a53(N:fJ)(T:X.N.Nodup)(P:X.N[iy]?=eV k)(R:Loc X.env.scope k)(B:JN (.ListComp t [#[.Name x px,d,u,0]] a pos) (eV (.Name k py)) w.line X.env=pure eX)(U:X.fn k=eX\/X.env.scope.names.lookup k=eV .local)(hc:X.calm=eX)(hi:PI X (.Name x px) d wi)(aa:∀s H C ex,PTs (blk X N s H a cl C ex) u tc)(he:∀s H C ex,PE (blk X N s H a cl C ex) t te)(g:a.kind=.function)(hN:N=x::ix.map λj=>(X.N[j]?).getD "")(G:N.Nodup)(hx:a.names.lookup x=eV .local)(J:closureFor a X.env=pure cl)(i:∀y∈a.names,y.2≠.cell)(f:∀y∈a.names,y.2=.local->a.names.lookup y.1=eV .local)(p:∀y c,cl.lookup y=eV c->X.env.cells.lookup y=eV c)(v:∀y,((JK a X.env).names.lookup y=eV .cell\/(JK a X.env).names.lookup y=eV .free)->∃c,cl.lookup y=eV c)(W:∀j∈ix,∃y,X.N[j]?=eV y/\X.env.kindOf y=eV .cell/\(JK a X.env).names.lookup y=eV .cell)(hs:autoParam (∀x,JC d X.env x=pure x) a3_):
 PS X (.Assign [.Name k py] (.ListComp t [#[.Name x px,d,u,0]] a pos) w) (tAsg (q0 ix wi tc te) (jh iy)):=by
 intro n s σ H D0 I h;rw[exec_Assign_Name_used _ _ _ _ B];refine Ac (Gv (Ac ?_));show IU _ _ (comprehension _ _ _ _ _ _ _ _>>=_) _ _ _;refine Ac (B2 (Q:=λ_ s'=>SP X n D0 .next s') (yl N hc hi aa he g hN G hx J i f p v W hs (use:=eV (assign (.Name k py) X.env)) I h λD C s6 H5 mm I7 hm M r l hsz m qn=>?_) (λ_ s' q=>Al (Al q)) λ_ _ y=>y);refine EZ (yd I7 T P R (show RelV (V.ref D) (Value.ref D) from rfl) (λs8 I8 O=>?_) U);let(a8,S,E):=O;let Z:C≠a8:=by
  rcases E with z|z;rw[z];exact r;exact AE (l _ _ z)
 let(oC,A,Y,F,rC):=hm;refine#[mm,#[oC,A,Y,S.extBut _ _ Z F,rC],λh9 L=>?_];exact#[_,H5,I8.turned (t':=s8.toks) (it:=C) (λb o hb e=>L.extBut b o hb e) M r (.inr hsz) l m,qn]
theorem lx:QE X (.Dict [] [] pos) a71:=#[a8u]
theorem pb(b:QE X k tk)(hv:QE X v a):QE X (.Dict [eV k] [v] pos) (zu [(tk,a)]):=#[xx (nt b.run hv.run xi) rfl rfl (by simp) (by simp)]
theorem a9u(f:QE X k tk)(hv:QE X v e)(c:QE X d tk')(b:QE X g a):QE X (.Dict [eV k,eV d] [v,g] pos) (zu [(tk,e),(tk',a)]):=#[xx (nt f.run hv.run (nt c.run b.run xi)) rfl rfl (by simp) (by simp)]
theorem ik(b:X.A.units+1<cLine)(c:QE X o td)(hi:QE X i ty)(a:NoSl i):QE X (.Subscript o i pos) (abh td ty):=#[ad2 b c.run hi.run a]
theorem ub(a:X.A.units+1<cLine)(hi:QE X i ty)(b:QE X o td)(hm:autoParam (JE .In o=eY) a8_):QT X (.Compare i [.In] [o] pos) (tB (tDIn ty td)):=#[a72 (a5p a hi.run b.run) hm]
theorem ku(a:X.A.units+1<cLine)(hi:QE X i ty)(b:QE X o td)(hm:autoParam (JE .NotIn o=eY) a8_):QT X (.Compare i [.NotIn] [o] pos) (tB (ui ty td)):=#[a72 (yc a hi.run b.run) hm]
theorem a1p(a:X.A.units+1<cLine)(hi:QE X i ty)(b:QE X o td)(hm:autoParam (JE .In o=eY) a8_):QE X (.Compare i [.In] [o] pos) (tDIn ty td):=#[a7n (a5p a hi.run b.run) hm]
theorem jg(d:X.A.units+1<cLine)(e:QE X o td)(hi:QE X i ty)(hv:QE X value c)(b:autoParam (JN value (eV (.Subscript o i a)) pos.line X.env=pure eY) a4_):
 QS X (.Assign [.Subscript o i a] value pos) (ace td ty c):=#[adm d e.run hi.run hv.run b]
theorem pj(h:X.A.units+1<cLine)(i:QE X o td)(c:QE X e ty)(d:QE X f g)(m:autoParam (M2 X o "get" b e f a) a9_):
 QE X (.Call (.Attribute o "get" b) [e,f] [] a) (a5d td ty g):=#[a8v h i.run c.run d.run m]
theorem a7y:kb X (.type "dict") (λxs H Q=>∃a kvs,xs=[V.ref a]/\H a=eV (.dK kvs)/\∀p,H p=eW->Q (.ref p) (upd H p (.dK kvs))):=by
 intro b s σ H xs us Q I r h;let(a,kvs,rfl,d,q):=h;let(u,rfl,e):=ux r;cases e;exact aav I (.inl d) λp s' hp c=>#[.ref p,_,c,fR,q p hp]
theorem a2q(h:(i4 P w).is k v=eX):RelV (kV k) v:=by
 rcases jr h with⟨i,t,rfl,rfl⟩|⟨x,t,rfl,rfl⟩
 . exact#[t,fR]
 exact#[t,fR]
theorem a1b:∀{a:eZ V}{vs:eZ IT},vs.length=a.length->(∀(j:fC) (v:IT),vs[j]?=eV v->∃y,a[j]?=eV y/\RelV y v)->Vals a vs
 |[],[],_,_=>.nil
 |k::a,v::vs,hl,h=>by
  let(y,e,r):=h 0 v rfl;cases e;exact .cons r (a1b (by simpa using hl) λj u b=>h (j+1) u (by simpa using b))
theorem lg(i:X.calm=eX):kb X (.type "list") (λxs H Q=>∃a kvs,xs=[V.ref a]/\H a=eV (.dK kvs)/\∀p,H p=eW->Q (.ref p) (upd H p (.lst (kvs.map λkv=>kV kv.1)))):=by
 intro f s σ H xs us Q I r h;let(a,kvs,rfl,o,q):=h;let(u,rfl,l):=ux r;cases l;let(z,hd,vs,rel,dd):=o7 I.hok (.inl o);let hl:=rel.length;let(ep,da):=dd.dictAt;refine PySem.W.kdl_call (PySem.W.kdl_dict hd) (I.ok.hd i) da (by rw[<- hl];exact z) λh' tk acc c n t b=>?_;refine#[.ref s.heap.objs.size,_,I.laid (t':=tk) n (An _) (show ObjOk X.prog X.w _ h' _ (.lst (kvs.map λkv=>kV kv.1)) from#[by rw[Ad];exact z,acc.toList,c,?_,by simpa using t]),fR,q _ (I.hok.fresh (An _))];refine a1b (by rw[AC,Ad,hl];exact b.1) λj v hv=>?_;let(k,x,e,m):=b.2 j v (by rw[<- B3];exact hv);let g:=rel.keys;let d:(vs.map (·.1))[j]?=eV k:=by rw[Ap,e];rfl
 rw[<- g,Ap] at d;refine#[kV k,?_,a2q m];rw[Ap];cases hj:kvs[j]? with|none=>rw[hj] at d;cases d|some p=>rw[hj] at d;rw[<- Am d];rfl
theorem a0x{L:eZ (fS×NameKind)}{cl:eZ (fS×IS)}(b:cl.map (·.1)=d)(a:(L.all λy=>(match y.2 with|.cell=>eY|.free=>eY|_=>eX) || decide (y.1∈d))=eX)(z:fS)(h:L.lookup z=eV .cell\/L.lookup z=eV .free):∃c,cl.lookup z=eV c:=by
 let hm:z∈cl.map (·.1):=by
  rw[b];rcases h with h|h;let:=Bo.mp a _ (BD h);simpa using this;let:=Bo.mp a _ (BD h);simpa using this
 clear b a;induction cl with
 |nil=>simp at hm
 |cons p r ih =>
  rw[HL];cases hb:z==p.1 with
  |true=>exact#[_,fR]
  |false =>
   rw[A5,Ak] at hm;rcases hm with h1|h1;rw[h1] at hb;simp at hb;exact ih h1
theorem a9q(N:fJ)(m:eZ fC)(hi:QI X (.Name x E) c D)(l:∀s H C ex,QTs (blk X N s H a cl C ex) r v)(B:∀s H C ex,QE (blk X N s H a cl C ex) o F)(k:autoParam (closureFor a X.env=pure cl) a4_)(h:autoParam (X.env.cells=cl) a4_)(A:autoParam (N=x::m.map (λj=>(X.N[j]?).getD "")) a4_)(i:autoParam (N.Nodup) a1_)(q:autoParam (cl.map (·.1)=N.tail) a4_)(n:autoParam (((JK a X.env).names.all λy=>(match y.2 with|.cell=>eY|.free=>eY|_=>eX) || decide (y.1∈N.tail))=eX) a8_)(p:∀j∈m,∃y,X.N[j]?=eV y/\X.env.kindOf y=eV .cell/\(JK a X.env).names.lookup y=eV .cell:=by first|(intro j g;simp only[Ak,Aq,gD] at g;subst g;exact#[_,fR,fR,by with_unfolding_all rfl])|(intro j g;simp only[Ak,Aq,gD] at g;rcases g with rfl|rfl<;>exact#[_,fR,fR,by with_unfolding_all rfl]))(t:autoParam (a.names.lookup x=eV .local) a1_)(f:autoParam (∀z∈a.names,z.2≠.cell) a1_)(b:autoParam (∀z∈a.names,z.2=.local->a.names.lookup z.1=eV .local) a1_)(u:autoParam (X.calm=eX) a4_)(d:autoParam (a.kind=.function) a4_)(w:autoParam (∀x,JC c X.env x=pure x) a3_):
 QE X (.ListComp o [#[.Name x E,c,r,0]] a pos) (q0 m D v F) :=
 #[xq N u hi.run (λs H C ex=>(l s H C ex).run) (λs H C ex=>(B s H C ex).run) d A i t k f b (λz G e=>by rw[h];exact e) (a0x q n) p w]
def metN(ns:eZ fB):fC:=(firstMet (λi=>ns.getD i 0) ns.length).length
theorem zh(g:X.calm=eX):kb X (.type "set") (λvs H Q=>∃(a:IS) (ns:eZ fB),vs=[.ref a]/\SqL X.K H a (ns.map V.int)/\ns.length+1<scanBound/\
 ∀p S,H p=eW->Q (.ref p) (upd H p (.set S (metN ns)))):=by
 intro c s σ H vs us Q I r h;let(a,ns,rfl,l,hz,q):=h;let(u,rfl,i):=r.one;cases i;let(its,k,p,_):=I.list l;let d:=wm k;let hl:its.length=ns.length:=d.length;refine PySem.call_set_list (items:=its.toArray) (ns:=ns) (I.ok.hd g) p.isList (by simpa using d) (by rw[A0,hl];exact hz) λh' tk f j=>?_;let hsz:its.toArray.size=ns.length:=by rw[A0];exact hl
 rw[hsz] at f;let fr:H s.heap.objs.size=eW:=I.hok.fresh (An _);exact#[.ref s.heap.objs.size,_,I.laid (t':=tk) (λb o e=>j b o (Az e) e) (An _) (show ObjOk X.prog X.w _ h' _ (.set _ (metN ns)) from f),fR,q _ _ fr]
theorem zl:kb X (.builtin "len") (λvs H Q=>∃a S n,vs=[.ref a]/\H a=eV (.set S n)/\n<100000/\Q (.int (n:fC)) H):=by
 intro b s σ H vs us Q I r h;let(a,S,n,rfl,e,hn,q):=h;let(u,rfl,j):=r.one;cases j;let c:s.heap.SetOf (intKind X.prog X.w) a S n:=I.hok a _ e;let(o,es,ep,t,d,f,hd,_,_,_,i,g):=c;subst g;exact PySem.call_len_set d f hd i (by lia) #[.int (es.size:fC),H,I.tok _,#[_,fR],q]
theorem t0(y:X.calm=eX):kb X (.builtin "sum") (λvs H Q=>∃(a:IS) (ns:eZ fB),vs=[.ref a]/\SqL X.K H a (ns.map V.int)/\(∀n∈ns,0<=n/\n<=10000)/\ns.length<=1000/\Q (.int ns.sum) H):=by
 intro o s σ H vs us Q I r h;let(a,ns,rfl,w,t,hn,q):=h;let(u,rfl,z):=r.one;cases z;let(its,C,p,_):=I.list w;let i:=wm C;let e:=i.allInts;let f:=i.numsOf;let(xs,c):=e.items;let k:s.heap.IsList a (intItems xs):=by rw[<- c];exact p.isList
 let b:numsOf (intItems xs).toList=ns:=by rw[<- c];simpa using f
 let v:xs.size=ns.length:=by
  let:=fX Array.size c;let h1:its.length=ns.length:=i.length;simp[intItems] at this
  lia
 rw[nums_intItems] at b;let m:∀(l:eZ fB),(∀n∈l,0<=n/\n<=10000)->0<=l.sum/\l.sum<=10000*(l.length:fB):=by
  intro l;induction l with
  |nil=>intro _;simp
  |cons x l ih =>
   intro h;let h1:=ih λn hn=>h n (Ag _ hn);let h2:=h x (Af ..);rw[EU,Au];constructor;lia
   let:((l.length+1:fC):fB)=(l.length:fB)+1:=by lia
   rw[this];lia
 let d:PySem.SumFits ns:=λj g=>by
  let hm:ns[j]∈ns:=AH g;let h1:=t _ hm;let h2:=m (ns.take (j+1)) λn hn=>t n (Bp hn);let h3:((ns.take (j+1)).length:fB)<=1000:=by rw[AG];lia
  let A:ns.getD j 0=ns[j]:=by rw[A7,Ah g];rfl
  unfold InLong;constructor;rw[A];lia;lia
 refine sum_intList (I.ok.hd y) k (λj g=>?_) λh' tk t' B=>?_;rw[numAt_eq,preSum_eq,b];exact d j (by lia);refine#[.int ns.sum,H,I.kept (t':=tk) B,#[t',?_],q];rw[preSum_eq,b,B0 (by lia)]
theorem af6(m:X.A.units+32<cLine):OpR X (JD .In) (λx y H Q=>∃p ys a d,y=.ref p/\SqL X.K H p ys/\DpAll X.K H ys a/\Dp X.K H x d/\EqOk (.list a)/\EqOk d/\Q (.bl (a.any λe=>Et e d)) H):=by
 intro b s σ H x y v u Q I g j h;let(p,ys,a,d,rfl,f,hds,hd,i,c,q):=h;let(as,l):=Dp.reads I (.lst f hds) j;let(bs,k):=Dp.reads I hd g;let h1:=i.1;simp only[BK] at h1;let h2:=c.2;exact PySem.SeqAt.in_list_reads l k h1 c.1 (by let:=HH (Bq a) d.depth;lia) #[.bl _,H,I,fR,q]
theorem a75{cl cells:eZ (fS×IS)}(h:∀p∈cl,cells.lookup p.1=eV p.2)(y:fS)(c:IS)(e:cl.lookup y=eV c):cells.lookup y=eV c:=h (y,c) (BD e)
inductive ClIn(cells:eZ (fS×IS)):eZ (fS×IS)->Prop
 |nil:ClIn cells []
 |cons{x:fS}{a:IS}{r:eZ (fS×IS)}:cells.lookup x=eV a->ClIn cells r->ClIn cells ((x,a)::r)
theorem ClIn.all(h:ClIn cells cl):∀p∈cl,cells.lookup p.1=eV p.2:=by
 induction h with
 |nil=>intro p hp;cases hp
 |cons h _ ih =>
  intro p hp;rcases Ak.mp hp with rfl|z;exact h;exact ih p z
inductive IxIn(X:Cx)(sc:Scope):eZ fC->Prop
 |nil:IxIn X sc []
 |cons{j:fC}{y:fS}{r:eZ fC}:X.N[j]?=eV y->X.env.kindOf y=eV .cell->(JK sc X.env).names.lookup y=eV .cell->IxIn X sc r->IxIn X sc (j::r)
theorem IxIn.all(h:IxIn X b a):∀j∈a,∃y,X.N[j]?=eV y/\X.env.kindOf y=eV .cell/\(JK b X.env).names.lookup y=eV .cell:=by
 induction h with
 |nil=>intro p hp;cases hp
 |cons h1 h2 h3 _ ih =>
  intro p hp;rcases Ak.mp hp with rfl|z;exact#[_,h1,h2,h3];exact ih p z
theorem nr(N:fJ)(k:eZ fC)(hi:QI X (.Name x B) c A)(i:∀s H C ex,QTs (blk X N s H a cl C ex) p t)(w:∀s H C ex,QE (blk X N s H a cl C ex) m D)(h:autoParam (closureFor a X.env=pure cl) a4_)(f:autoParam (ClIn X.env.cells cl) a10_)(v:autoParam (N=x::k.map (λj=>(X.N[j]?).getD "")) a4_)(g:autoParam (N.Nodup) a1_)(o:autoParam (cl.map (·.1)=N.tail) a4_)(l:autoParam (((JK a X.env).names.all λy=>(match y.2 with|.cell=>eY|.free=>eY|_=>eX) || decide (y.1∈N.tail))=eX) a8_)(n:autoParam (IxIn X a k) a10_)(q:autoParam (a.names.lookup x=eV .local) a1_)(e:autoParam (∀z∈a.names,z.2≠.cell) a1_)(b:autoParam (∀z∈a.names,z.2=.local->a.names.lookup z.1=eV .local) a1_)(r:autoParam (X.calm=eX) a4_)(d:autoParam (a.kind=.function) a4_)(u:autoParam (∀x,JC c X.env x=pure x) a3_):
 QE X (.ListComp m [#[.Name x B,c,p,0]] a pos) (q0 k A t D) :=
 #[xq N r hi.run (λs H C ex=>(i s H C ex).run) (λs H C ex=>(w s H C ex).run) d v g q h e b (a75 f.all) (a0x o l) n.all u]
theorem pp(N:fJ)(p:eZ fC)(r:X.N.Nodup)(w:X.N[i]?=eV h)(B:Loc X.env.scope h)(hi:QI X (.Name x D) a O)(A:∀s H C ex,QTs (blk X N s H b cl C ex) k G)(M:∀s H C ex,QE (blk X N s H b cl C ex) g P)(m:autoParam (JN (.ListComp g [#[.Name x D,a,k,0]] b pos) (eV (.Name h L)) f.line X.env=pure eX) a4_)(t:autoParam (X.fn h=eX\/X.env.scope.names.lookup h=eV .local) a0_)(o:autoParam (closureFor b X.env=pure cl) a4_)(l:autoParam (ClIn X.env.cells cl) a10_)(J:autoParam (N=x::p.map (λj=>(X.N[j]?).getD "")) a4_)(n:autoParam (N.Nodup) a1_)(v:autoParam (cl.map (·.1)=N.tail) a4_)(q:autoParam (((JK b X.env).names.all λy=>(match y.2 with|.cell=>eY|.free=>eY|_=>eX) || decide (y.1∈N.tail))=eX) a8_)(u:autoParam (IxIn X b p) a10_)(E:autoParam (b.names.lookup x=eV .local) a1_)(e:autoParam (∀z∈b.names,z.2≠.cell) a1_)(c:autoParam (∀z∈b.names,z.2=.local->b.names.lookup z.1=eV .local) a1_)(F:autoParam (X.calm=eX) a4_)(d:autoParam (b.kind=.function) a4_)(I:autoParam (∀x,JC a X.env x=pure x) a3_):
 QS X (.Assign [.Name h L] (.ListComp g [#[.Name x D,a,k,0]] b pos) f) (tAsg (q0 p O G P) (jh i)) :=
 #[a53 N r w B m t F hi.run (λs H C ex=>(A s H C ex).run) (λs H C ex=>(M s H C ex).run) d J n E o e c (a75 l.all) (a0x v q) u.all I]
theorem aaf(xs:eZ V)(rs:eZ α)(R:IS->Hp->V->β->Prop)(f:α->β)(j:JSeq J M xs)(G:M g)(hz:xs.length<=1000)(hl:rs.length=xs.length)(s:∀D H H' y r,R D H y r->x0 D H H'->R D H' y r)(O:∀(D:IS) (i:fC) (x:V) (r:α),xs[i]?=eV x->rs[i]?=eV r->∀k,Same g k->k D≠eW->∀E:VK,(∀y v,Same k v->R D v y (f r)->E y v)->S (eV x::jy σ N) k E)(P:∀D H' ys,g D=eW->Same g H'->H' D=eV (.lst ys)->IZ (λy r=>R D H' y r) ys (rs.map f)->Q (.ref D) H'):oa J g σ N tYes S Q:=by
 intro D F;let put:∀H ys,Same g H->Same g (upd H D (.lst ys)):=λH ys e b u q=>by rw[fh (gc q F)];exact e b u q
 exists λi m H=>i<=xs.length/\m=xs.length-i/\Same g H/\∃ys:eZ V,H D=eV (.lst ys)/\IZ (λy r=>R D H y r) ys ((rs.take i).map f),#[xs.length,AF _,fR,put _ _ (Same.refl _),[],ad,by simpa using Paired.nil];rintro i m H ⟨hi,rfl,e,ys,n,hp⟩;let l:=j.stay _ _ G e;by_cases c:i<xs.length
 . refine .inr #[j.go i H l c,λx H' p=>?_];let(rfl,L):=j.yld i H x H' c l p;let A:i<rs.length:=by lia
   let C:rs[i]?=eV rs[i]:=Ah A;let I:rs.take (i+1)=rs.take i++[rs[i]]:=by rw[AL,C];rfl
   let h:ys.length=i:=by
    let h1:=A3 hp;rw[Ad,AG] at h1
    lia
   dsimp only[tYes];rw[fE rfl];refine O D i x rs[i] L C _ e (by rw[n];simp) _ λy B o w=>?_;let d:x0 D B (upd B D (.lst (ys++[y]))):=λb u q hn=>by rw[fh hn];exact q
   exists ys,o _ _ n,by rw[h];exact AD c (AA hz (by decide)),xs.length-(i+1),by lia,c,fR,put _ _ (e.trans o),ys++[y],ad;rw[I,Ax];exact Paired.snocP (Paired.mapP hp λa r z=>s _ _ _ _ _ (s _ _ _ _ _ z (o.x D)) d) (s _ _ _ _ _ w d)
 let t:i=xs.length:=by lia
 subst t;refine .inl #[j.stop _ H l (An _),?_];rw[<- hl,AW] at hp;exact P D H ys F e n hp
theorem a14(ns:eZ fB):metN ns=ns.length↔ns.Nodup:=by
 let key:∀(l acc:eZ fB),(l.foldl step_dedup acc).length<=acc.length+l.length/\(acc.Nodup->((l.foldl step_dedup acc).length=acc.length+l.length↔(acc++l).Nodup)):=by
  intro l;induction l with
  |nil=>intro acc;simp
  |cons x l ih =>
   intro acc;rw[List.foldl_cons];let h1:=(ih (step_dedup acc x)).1;by_cases hm:acc.any (·==x)=eX
   . let e:step_dedup acc x=acc:=by unfold step_dedup;rw[fE hm]
     rw[e] at h1 |-;let c:x∈acc:=by
      rw[AV] at hm;let(y,f,b):=hm;let:y=x:=by simpa using b
      exact this ▸ f
     refine#[by rw[Au];lia,λa=>#[λh=>?_,λh=>?_]];rw[Au] at h;lia;exfalso;rw[AN] at h;exact h.2.2 x c x (Af ..) rfl
   let e:step_dedup acc x=acc++[x]:=by unfold step_dedup;rw[fD hm]
   let c:¬ x∈acc:=λz=>hm (AV.mpr #[x,z,by simp]);let h2:=(ih (acc++[x])).2;let h3:=(ih (acc++[x])).1;rw[e];rw[Aj,Av] at h2 h3;refine#[by rw[Au];lia,λa=>?_];let d:=h2 (xm a c);rw[A4,Cw] at d;rw[Au,<- d]
   lia
 let h:=(key ns []).2 Bh;let e:(Bb ns.length).map (λi=>ns.getD i 0)=ns:=by
  apply List.ext_getElem;simp;intro i h1 h2;simp[Ah h2]
 unfold metN firstMet;rw[e];simpa using h
theorem ad8(ns:eZ fB):metN ns<=ns.length:=firstMet_length_le _ _
theorem afa(c:QE X e b)(a:autoParam (JJ e fl X.env (eval e X.env)=eval e X.env) a4_):QE X (.Attribute e fl pos) (tFld X.K b fl):=#[aey c.run a]
theorem aem(d:QE X o b)(hv:QE X value e)(c:autoParam (JN value (eV (.Attribute o fl a)) pos.line X.env=pure eY) a4_):QS X (.Assign [.Attribute o fl a] value pos) (sFld X.K b e fl):=#[afm d.run hv.run c]
theorem gi(r:QE X o j)(c:Cls X.K C)(hm:Meth X.K C m f)(F:FnOk X.prog X.w X.K X.mg X.base CX k f fd ps sp)(n:Room k X.A)(p:Binds X.K fd ps q)(hd:Vals d q)(l:la CX X E)(s:QA X (e::es) t)(b:autoParam (IW (e::es) X.env=(eY,eval e X.env)::IW es X.env) a4_)(g:autoParam ((JF pos (IW es X.env)).any (·.1)=eY) a4_)(i:autoParam (eval (.Call (.Attribute o m a) (e::es) [] pos) X.env=(do
 let h<-eval o X.env
 standAt a.atName
 let (f,first)<-holding [h] (getMethod h m pl)
 callWith pos f first (JF pos (IW (e::es) X.env)) (JY pos (JP [] X.env)))) a4_):
 QE X (.Call (.Attribute o m a) (e::es) [] pos) (let t':=t;a00 C m sp d E j t'):=#[ad0 r.run c hm F n p hd l s.run b g i]
theorem rz(l:QE X o i)(c:Cls X.K C)(hm:Meth X.K C m f)(F:FnOk X.prog X.w X.K X.mg X.base CX k f fd ps sp)(n:Room k X.A)(e:Binds X.K fd ps h)(hd:Vals b h)(j:la CX X E)(g:autoParam (eval (.Call (.Attribute o m a) [] [] pos) X.env=(do
 let d<-eval o X.env
 standAt a.atName
 let (f,first)<-holding [d] (getMethod d m pl)
 callWith pos f first (JF pos (IW [] X.env)) (JY pos (JP [] X.env)))) a4_):
 QE X (.Call (.Attribute o m a) [] [] pos) (a00 C m sp b E i tNil):=#[a9w l.run c hm F n e hd j g]
theorem a3q(M:Mk X.K C f)(F:FnOk X.prog X.w X.K X.mg X.base CX k f fd ps sp)(m:Room (k+1) X.A)(d:Gl X x)(hm:X.mg x=eV (.ref C))(g:Binds X.K fd ps h)(hd:Vals c h)(i:la CX X E)(l:QA X (e::es) t)(b:autoParam ((x==("__debug__":fS))=eY) a1_)(j:autoParam (IW (e::es) X.env=(eY,eval e X.env)::IW es X.env) a4_)(a:autoParam ((JF pos (IW es X.env)).any (·.1)=eY) a4_):
 QE X (.Call (.Name x p) (e::es) [] pos) (abf C sp c E t):=#[adf M F m d hm g hd i l.run b j a]
theorem a9s:QE X (.Dict [] [] pos) a5o:=#[aa7]
theorem a9m(I:Inv X c σ H s)(e:H a=eV (.dK kvs))(j:RelV (kV k) u)(m:RelV v r)(hl:kvs.length<IR)(h1:∀z f s',valV kvs k=eV z->Inv X c σ H s'->RelV z f->Q f s')(h2:valV kvs k=eW->∀s',Inv X c σ (upd H a (.dK (putK kvs k v))) s'->Q r s'):
 IU (IV X.prog X.w) A (call (.builtin "dict.setdefault") [.ref a,u,r]) Q E s:=by
 let(z,hd,vs,rel,dd):=o9 I.hok e;refine DL EE dd.typeIs PySem.F.entry_dict_setdefault (PySem.F.args_dict_setdefault_3 _ _ _) (kt_meets_setdefault (i4 X.prog X.w) a (nb j) hd r) #[vs,dd,by rw[<- rel.length];exact z,λf i=>?_,λhn h' d l=>?_]
 . let b:=rel.val k;rw[i] at b;cases hz:valV kvs k with|none=>rw[hz] at b;exact b.elim|some zz=>rw[hz] at b;exact h1 zz f _ hz (I.tok _) b
 let h:valV kvs k=eW:=by
  let b:=rel.val k;rw[hn] at b;cases hz:valV kvs k with|none=>rfl|some zz=>rw[hz] at b;exact b.elim
 refine h2 h _ ?_;let n:∃q,h'.get? a=eV q:=let ⟨q,_,_,hq,_⟩:=d;#[q,hq];let g:(putK kvs k v).length<=IR:=by let:=jp kvs k v;lia
 exact nj I (by rw[e];exact True.intro) l n (ph g hd (rel.put k m) d)
def a4k(td ty tx:TE):TE:=fun σ H Q=>td σ H λx H1=>∃a,x=.ref a/\IsD H1 a/\ty σ H1 λy H2=>tx σ H2 λz H3=>∃kvs k,H3 a=eV (.dK kvs)/\y=kV k/\kvs.length<IR/\
 (∀v,valV kvs k=eV v->Q v H3)/\(valV kvs k=eW->Q z (upd H3 a (.dK (putK kvs k z))))
theorem aea(w:PE X o td)(P:PE X e ty)(T:PE X f G)(m:M2 X o "setdefault" g e f c):PE X (.Call (.Attribute o "setdefault" g) [e,f] [] c) (a4k td ty G):=by
 intro b s σ H Q I h;refine Df m.base m.few m.line Cj EE PySem.F.type_dict_setdefault (thn (w b s σ H _ I h) λu s1 W=>?_);let(x,R,p,t,a,ex,d,B):=W;subst ex;obtain rfl:u=Value.ref a:=t;let(U,C,_):=u5 p d;exists U,C;rw[m.trees];refine BJ rfl (BV (B8 (thn (P b s1 σ R _ p B) λiv N #[y,A,q,D,Y] =>
  B8 (thn (T b N σ A _ q Y) λfv Z #[z,L,E,n,kvs,k,S,M,hl,O,r]=>Cg ?_))))
 subst M;exact a9m E S D n hl (λv w' J l j i=>#[v,L,j,i,O v l]) λl J j=>#[z,_,j,n,r l]
theorem xz(h:QE X o td)(c:QE X e ty)(d:QE X f g)(m:autoParam (M2 X o "setdefault" b e f a) a9_):QE X (.Call (.Attribute o "setdefault" b) [e,f] [] a) (a4k td ty g):=#[aea h.run c.run d.run m]
theorem se(f:s.heap.IsKeyIter J d n es.size ep)(h1:s.heap.get? d=eV od)(h2:od.data=.dict es ep)(g:A.handled=eW)(h:∀(hn:n<es.size) h',h'.IsKeyIter J d (n+1) es.size ep->BE J s.heap h'->Q (eV es[n].key) {s with heap:=h'})(j:es.size<=n->∀h',FM J s.heap h'->Q eW {s with heap:=h'}):
 IU (IV prog w) A (JM (.ref J)) Q E s:=by
 let(k,g1,i,c):=id f;let ty:=f.typeIs;let no:Builtin.Dict_items.ownsTuple "dict_keyiterator"=eY:=by decide
 let nn:¬ ((Value.ref d==Value.none)=eX):=Aw;let pos:¬ ((n:fB)<0):=by lia
 unfold JM;refine Ac (CP (Bt (name:=BI "__next__") ty DU (Bn DU ty PySem.F.entry_dict_keyiterator_next ?_ (PySem.F.args_dict_keyiterator_next_1 _))));refine Ac (Al (Ac (Ac ?_)))
 first|refine Ac (Da ty (Al (Ac (EB g1 c ?_))))|refine Ac (DM ty (Al (Ac (EB g1 c ?_))))
 simp only[no,B9,if_false];show IU _ _ (if(Value.ref d==Value.none)=eX then _ else _) _ _ s;rw[fD nn];refine Ac (Al (Ac (Hw h1 h2 ?_)));rw[fD (by simp)];refine Ac (Al (Ac (wpAny_dictEpoch h1 h2 ?_)));rw[fD (by simp)];refine Al ?_;by_cases hn:n<es.size
 . simp only[pos,if_false,Bf,Fi hn];refine Ac ?_
   first|refine Ac (Da ty (Al (Ac (Ec ty ?_))))|refine Ac (DM ty (Al (Ac (Ec ty ?_))))
   show IU _ _ (setField (.ref J) 1 (JU ((n:fB)+1))>>=_) _ _ s;refine Ac (EF g1 c (by simp) ?_);let e:(s.heap.update J (EV (·.setIfInBounds 1 (JU ((n:fB)+1))))).IsKeyIter J d (n+1) es.size ep:=#[_,BG _ g1 (Ed (CU c _)),(Ff ..).trans i,(by rw[CU c];simp[JU])]
   refine Ac (BH (Ac (Ec (s:={s with heap:=s.heap.update J (EV (·.setIfInBounds 1 (JU ((n:fB)+1))))}) e.typeIs ?_)));exact Al (Al #[_,fR,Al (h hn _ e (Ck ..))])
 simp only[pos,if_false,Bf,Array.getElem?_eq_none (Fk hn)];refine Ac ?_
 first|refine Ac (Da ty (Al ?_))|refine Ac (DM ty (Al ?_))
 show IU _ _ (setField (.ref J) 0 .none>>=_) _ _ s;refine Ac (EF g1 c (by simp) (Ac ?_));simp only[newExc,newTuple];refine Ac (AX ?_ (by size_fits));refine Ac (m:=firstArgMember _ _) (FI (a:=Value.none) (by first|rfl|(simp only[firstArgMember];rfl)) (AX ?_ (by size_fits)));simp only[raiseNew];refine Ac (wpAny_handled ?_);rw[show A.in1.handled=eW from g];refine Ac (Al (wpAny_throw ?_));let sub:=EC;refine Ac (Ds (T := "StopIteration") (b:=eX) #[_,Ay _ rfl,fR] sub ?_);exact Al (j (Fk hn) _ (((Ck ..).extBut.push _).push _))
theorem a1a(hd:(d==JI)=eY)(h1:s.heap.get? d=eV od)(a:od.ExactDict)(h2:od.data=.dict es ep)(q:Q (.ref s.heap.objs.size) {s with heap:=s.heap.push {cls:=.type "dict_keyiterator",data:=.fields [.ref d,.int 0 0,.int es.size 0,.int ep 0].toArray}}):IU (IV prog w) A (pyIter (.ref d)) Q E s:=by
 let ty:s.TypeIs (.ref d) "dict" := #[od,h1,a.1]
 refine Fd ty FN (Bn FN ty PySem.F.entry_dict_iter ?_ (PySem.F.args_dict_iter_1 _));unfold Builtin.«dict.__iter__»;refine Ac ?_;unfold Builtin.Dict.dictSlotNone;refine Ac (FY ty (Al ?_));show IU _ _ (FZ d>>=_) _ _ s;unfold FZ;rw[fD (show ¬ (d==JI)=eX by rw[hd];exact Aw)];refine Ac (Al (Ac (Hw h1 h2 (Ac (wpAny_dictEpoch h1 h2 ?_)))));exact Ac (AX (Al #[_,fR,"dict_keyiterator",_,#[_,Ay _ rfl,fR],PySem.F.slot_dict_keyiterator_next.lookup,q]))
theorem vj(t:X.calm=eX):kb X (.builtin "any") (λxs H Q=>∃(a:IS) (bs:eZ gQ),xs=[.ref a]/\SqL X.K H a (bs.map V.bl)/\Q (.bl (bs.any id)) H):=by
 intro c s σ H xs us Q I r h;let(a,bs,rfl,C,q):=h;let(u,rfl,j):=r.one;cases j;let(its,l,p,hz):=I.list C;let g:a<s.heap.objs.size:=by let(o,n,e,_):=p;exact Az e
 refine call_any_walk (DS p.isList ?_);let len:bs.length=its.length:=by let:=l.length;simpa using this
 exists s.heap.objs.size,_,_,_,_,_,λi=>(bs[i]?).getD eY,fR,Ib (A:=X.A.in1) (show X.A.in1.handled=eW from I.ok.hd t) s.heap.objs.size a (AB g) its.toArray,#[#[_,Ay _ rfl,fR,fR],p.isList.at λo e=>Ai _ e],?_
 . intro i v s' E D hv m;let d:its[i]?=eV v:=by simpa using hv
   cases f:bs[i]? with
   |none =>
    let h1:=DC.mp f;let h2:=(Ao.mp d).1
    lia
   |some b =>
    let(u,k,j):=l.get (i:=i) (x:=V.bl b) (by rw[Ap,f]<;>rfl);rw[d] at k;cases k;cases j;simp only[f,CI] at m;exact BL m
 intro h' tk w;let e:(Bb its.toArray.size).any (λi=>(bs[i]?).getD eY)=bs.any id:=by
  rw[A0,<- len];rw[Bm];simp only[AV,Br,_root_.id];constructor;rintro⟨i,hi,e⟩;rw[Ah hi,CI] at e;exact#[_,AH hi,e];rintro⟨b,f,e⟩;let(i,hi,y):=Gn.mp f;exact#[i,hi,by rw[Ah hi,CI,y];exact e]
 let fr:FpOk X c H s.heap.objs.size:=I.fpOk (An _) (I.hok.fresh (An _));refine#[.bl (bs.any id),H,?_,by rw[e];rfl,q];let B:Inv X c σ H {s with heap:=h',toks:=tk}:=I.kept (h':=h') (t':=tk) λb o e=>w b o (λz=>by
  let:b=s.heap.objs.size:=by simpa using z
  exact fF (Az e) (by rw[this];exact AZ _)) (Ai _ e)
 exact B
def NF(X:Cx)(a:IS):Prop:=∀o u,X.H₀ a≠eV (.frz o u)
theorem Inv.nf(I:Inv X b σ H s)(e:H a=eV u)(c:∀o v,u≠.frz o v):NF X a:=λo v z=>by
 let:=I.base.frzs a o v z;rw[e] at this;exact c o v (Am this)
theorem Inv.thaw(I:Inv X d σ H s)(e:H a=eV (.frz o u))(nf:NF X a):Inv X d σ (upd H a u) s:=by
 let k:∀b v,H b=eV v->(∀g f,v≠.frz g f)->(upd H a u) b=eV v:=λb v q n=>by
  rw[fh λz=>by rw[z,e] at q;exact n o u (Am q).symm];exact q
 let k0:∀b,H b=eW->(upd H a u) b=eW:=λb q=>by
  rw[fh λz=>by rw[z,e] at q;cases q];exact q
 let hok:HOk X.prog X.w (upd H a u) s.heap:=λb v q=>by
  let st:∀{c:IS} {i:HO},ObjOk X.prog X.w H s.heap c i->ObjOk X.prog X.w (upd H a u) s.heap c i:=λx=>x.stay (λ_ _ _ z=>z) (λc z=>k c _ z λ_ _ y=>by cases y) λc xs z=>k c _ z λ_ _ y=>by cases y
  by_cases j:b=a;subst j;rw[ad] at q;cases q;exact st (I.hok b _ e).2;rw[fh j] at q;exact st (I.hok b v q)
 let bs:=I.base;refine#[I.ok,I.os,I.bare,#[bs.keep,bs.slot,λb ob q n r=>k0 b (bs.free b ob q n r),bs.there,λb xs q=>k b _ (bs.tups b xs q) (λ_ _ y=>nomatch y),λb g f q=>?_,λb ps q=>?_],I.loc,I.cell,k0 _ I.free,λx c z=>k0 _ (I.freeC x c z),λp hp=>?_,hok,I.len];let h:=bs.frzs b g f q;rw[fh λz=>by rw[z] at q;exact nf g f q];exact h;let(m,h):=bs.tbls b ps q;exact#[m,k b _ h λ_ _ y=>by cases y];let(t,l,p3):=I.pin p hp;exact#[t,k0 _ l,p3]
def ag7(X:Cx)(t:TE):TE:=fun σ H Q=>t σ H λv H2=>∃a o u,H2 a=eV (.frz o u)/\NF X a/\Q v (upd H2 a u)
theorem ae0(h:QE X ex t):QE X ex (ag7 X t):=#[λb s σ H Q I q=>thn (h.run b s σ H _ I q) λg s1 #[v,f,c,r,a,o,u,e,nf,d]=>#[v,_,c.thaw e nf,r,d]]
def Itd(a:IS)(od:Obj)(kvs:eZ (eZ Key×V))(bs:eZ IS):It where
 go:=λi H=>H a=eV (.frz od (.dT kvs))/\i<bs.length
 yld:=λi H x H'=>H'=H/\(bs.map V.ref)[i]?=eV x
 stop:=λi H=>H a=eV (.frz od (.dT kvs))/\bs.length<=i
def DEnt(od:Obj)(bs:eZ IS)(es:fY DictEntry)(ep:fC):Prop:=od.ExactDict/\od.data=.dict es ep/\es.toList.map (·.key)=bs.map Value.ref
theorem adk{K:Aa}(hd:DEnt od bs es ep):
 Turn P w K tg (Itd a od kvs bs) [J] J (λi h=>h.IsKeyIter J a i es.size ep) where
 mem:=by simp
 obj:=λi h st b hb=>by
  let e:b=J:=by simpa using hb
  subst e;let(o,h1,h2,h3):=st;exact#[o,h1,λv z=>by rw[h3] at z;cases z]
 keep:=λi h h' st k=>by
  let(o,h1,h2):=st;exact#[o,k J (by simp) o h1,h2]
 item:=by
  intro X hP hw hK hc i pins s σ H E I hf st hg;subst hP hw hK;let(f0,f1,f2,f3,f4,f5):=hf J (by simp);let(g1,g2):=I.hok a _ hg.1;let hsz:es.size=bs.length:=by
   let:=fX EJ hd.2.2;rw[Ad,Ad,AC] at this;exact this
  refine se st g1 hd.2.1 (I.ok.hd hc) (λhn h' st' sb=>?_) (λhn=>fF hg.2 (by lia));let I1:Inv X pins σ H {s with heap:=h',toks:=s.toks}:=I.turned (λb o hb e=>(sb.2 b hb).trans e) f0 f1 f3 f4 f5;let hk:es[i].key=.ref (bs[i]'hg.2):=by
   let e1:=fX (·[i]?) hd.2.2;simp only[Ap] at e1;rw[Ah (by rw[AC];exact hn),Ah hg.2] at e1;let:=Am e1;simpa using this
  refine#[_,fR,letGo_keyiter st' #[.ref (bs[i]'hg.2),H,I1,hk,#[fR,by rw[Ap,Ah hg.2];rfl],st',λb hb=>(hf b hb).1]]
 done:=by
  intro X hP hw hK hc i pins s σ H E I hf st hg;subst hP hw hK;let(f0,f1,f2,f3,f4,f5):=hf J (by simp);let(g1,g2):=I.hok a _ hg.1;let hsz:es.size=bs.length:=by
   let:=fX EJ hd.2.2;rw[Ad,Ad,AC] at this;exact this
  exact se st g1 hd.2.1 (I.ok.hd hc) (λhn=>fF hg.2 (by lia)) (λ_ h' eb=>#[fR,I.turned (t':=s.toks) (λb o hb e=>eb b o hb e) f0 f1 f3 f4 f5])
 self:=λ_ _ _ _ _ st h=>Gq st h
def a8j(X:Cx)(tl:TE):TI:=fun σ H R=>tl σ H λx H1=>∃a kvs,x=.ref a/\H1 a=eV (.dT kvs)/\∀od bs,NF X a->IZ (λ(p:eZ Key×V) b=>H1 b=eV (.tup (p.1.map kV))) kvs bs->R (Itd a od kvs bs) (upd H1 a (.frz od (.dT kvs)))
theorem a6d{H:Hp}(h:IZ (λ(p:eZ Key×V) (q:eZ Key×IS×IT)=>p.1=q.1/\H q.2.1=eV (.tup (p.1.map kV))/\RelV p.2 q.2.2) kvs xs):IZ (λ(p:eZ Key×V) b=>H b=eV (.tup (p.1.map kV))) kvs (xs.map (·.2.1)):=by
 induction h with|nil=>exact .nil|cons h t ih=>exact .cons h.2.1 ih
theorem a9f(hl:PE X l n):PI X t l (a8j X n):=by
 intro c s σ H R I h;refine thn (hl c s σ H _ I h) λv s1 r=>?_;let(x,j,i,r1,a,kvs,ex,e,q):=r;subst ex;cases r1;let(z,hd,xs,rel,od,es,ep,h1,g,h2,h3,m):=(show ObjOk X.prog X.w j s1.heap a (.dT kvs) from i.hok a _ e)
 let f:Inv X c σ (upd j a (.frz od (.dT kvs))) s1:=i.write (x:=a) (e:=a) (h':=s1.heap) (t':=s1.toks) (by rw[e];exact True.intro) (.inl rfl) (λ_ _ _ z=>z) #[od,h1] #[h1,z,hd,xs,Paired.mapP rel λp q d=>#[d.1,by rw[fh (jb d.2.1 e (λz=>nomatch z))];exact d.2.1,d.2.2],od,es,ep,h1,g,h2,h3,m];let ent:DEnt od (xs.map (·.2.1)) es ep:=#[g,h2,by rw[h3,Bu,Bu];rfl]
 refine a1a hd h1 g h2 ?_;refine#[s1.heap.objs.size,[s1.heap.objs.size],_,_,upd j a (.frz od (.dT kvs)),fR,f.kept (t':=s1.toks) λb o e=>Ai _ e,adk ent,#[_,Ay _ rfl,fR,fR],λb k=>?_,q od _ (i.nf e λ_ _ z=>nomatch z) (a6d rel)];let e:b=s1.heap.objs.size:=by simpa using k
 subst e;exact f.fpOk (An _) (f.hok.fresh (An _))
theorem a93(hl:QE X l a):QI X b l (a8j X a):=#[a9f hl.run]
theorem adh:JSeq (Itd a od kvs bs) (λH=>H a=eV (.frz od (.dT kvs))) (bs.map V.ref) where
 go:=λi H h hi=>#[h,by rw[Ad] at hi;exact hi]
 stop:=λi H h hi=>#[h,by rw[Ad] at hi;exact hi]
 yld:=λi H x H' _ h y=>y
 stay:=λH H' h e=>e _ _ h
end L2
namespace Mir
open PySem L2
def noNames:fJ:=["nil","any","is","not","cell","stretch","tree","nothing","then","with"]
theorem a39(a b:fS):eqV (.str a) (.str b)=decide (a=b):=by
 show(a==b)=decide (a=b);by_cases h:a=b;subst h;simp;rw[fT h];exact beq_eq_false_iff_ne.mpr h
theorem vt(x:fS)(l:fJ):inV (.str x) (l.map V.str)=decide (x∈l):=by
 unfold inV;rw[Bm,AV,fZ];constructor;rintro⟨y,a,e⟩;let(z,hz,rfl):=As.mp a;rw[a39,fZ] at e;exact e ▸ hz;intro h;exact#[.str x,As.mpr #[x,h,fR],by rw[a39];simp]
theorem q7(l:fJ):(l.map V.str).all o3=eX:=by
 rw[Bo];intro v hv;let(z,_,rfl):=As.mp hv;rfl
end Mir
namespace L2
abbrev rQ(a:IS):fA V:=eV (.ref a)
abbrev iQ(a:fB):fA V:=eV (.int a)
abbrev nQ:fA V:=eW
end L2
namespace K37
open L2 Mir
def top(i:fC):JA:=PySem.Challenge.pw_apart_k37_whole_heaps_fit.main.body.getD i (.Pass #[0,0,0,0])
structure Con(K:Aa)(mg:fS->fA IT)(w:JL):Prop where
 noNames:∃a,Glob mg "NO_NAMES" (.ref a)/\∀H,SqT K H a (noNames.map V.str)
 min:mg "min"=eW
 len:mg "len"=eW
 all:mg "all"=eW
 any:mg "any"=eW
 isi:mg "isinstance"=eW
 list:mg "list"=eW
 int:mg "int"=eW
 bool:mg "bool"=eW
 str:mg "str"=eW
 dict:mg "dict"=eW
 sorted:mg "sorted"=eW
 set:mg "set"=eW
 sum:mg "sum"=eW
 range:mg "range"=eW
 tuple:mg "tuple"=eW
 max:mg "max"=eW
 zip:mg "zip"=eW
theorem iteB{b:gQ}{A B:Prop}(h1:b=eX->A)(h2:b=eY->B):if b=eX then A else B:=by
 cases b with|true=>rw[fE rfl];exact h1 rfl|false=>rw[fD Aw];exact h2 rfl
theorem Paired.nth:∀{c:eZ α}{l₂:eZ β}{i:fC}{a:α},IZ F c l₂->c[i]?=eV a->∃b,l₂[i]?=eV b/\F a b
 |_,_,_,_,.nil,e=>by simp at e
 |_,_,0,_,.cons h _,e=>by simp at e;subst e;exact#[_,fR,h]
 |_,_,i+1,_,.cons _ t,e=>by
  let(b,f,d):=Paired.nth (i:=i) t (by simpa using e);exact#[b,by simpa using f,d]
structure Cal(K:Aa)(mg:fS->fA IT)(x:fS)(f:IS)(fd:JO)(ps:fJ):Prop where
 name:mg x=eV (.ref f)
 keep:BU K (.ref f)=eX
 bind:Binds K fd ps []
abbrev eQ(_:FnOk P w K mg base X k f d p s)x:=Cal K mg x f d p
theorem lk{l:eZ IS}{i:fC}(b:(l.map V.ref)[i]?=eV x):∃a,l[i]?=eV a/\x=.ref a:=by
 rw[Ap] at b;cases h:l[i]? with|none=>rw[h] at b;cases b|some a=>rw[h] at b;exact#[a,fR,(Am b).symm]
theorem Paired.at2{F:α->β->Prop}{d:eZ α}{l₂:eZ β}{i:fC}{a:α}{b:β}(h:IZ F d l₂)(h1:d[i]?=eV a)(h2:l₂[i]?=eV b):F a b:=by
 let(f,c,e):=Paired.nth h h1;rw[h2] at c;cases c;exact e
theorem Paired.app:∀{c:eZ α}{l₂:eZ β}{b:eZ α}{a:eZ β},IZ F c l₂->IZ F b a->IZ F (c++b) (l₂++a)
 |_,_,_,_,.nil,h=>h
 |_,_,_,_,.cons h t,h2=>.cons h (Paired.app t h2)
theorem gz(hl:H l=eW)(e:Same H H')(o:HO):Same H (upd H' l o):=λb u q=>by rw[fh (gc q hl)];exact e b u q
def le(ns:eZ fB)(k:fC):fB:=(ns[k]?).getD 0
inductive spCellS(K:Aa)(vs:eZ V)(H:Hp)(Q:VK):Prop
 |mk (a:IS)(ns:eZ fB)(k:fC)(h0:vs=[.ref a,.int (k:fB)])(h1:SqL K H a (ns.map V.int))(h2:Q (.int (le ns k)) H):spCellS K vs H Q
def a79(K:Aa):Sp:=λvs H Q _=>spCellS K vs H Q
theorem wz(hl:(xs.length:fB)=m)(hm:0<m):∃v,atI xs (i % m)=eV v/\v∈xs:=by
 let a:=AM i (Int.ne_of_gt hm);let h1:=AU i hm;generalize i % m=j at a h1;let(k,rfl):=Int.eq_ofNat_of_zero_le a;let b:k<xs.length:=by lia
 exact#[xs[k],jo (Ah b),AH b]
theorem a2e(h:QT X e t)(w:∀σ H Q,t' σ H Q->t σ H Q):QT X e t':=#[λa s σ H Q I q=>h.run a s σ H Q I (w σ H Q q)]
abbrev a57:JA:=top 34
theorem afr:FnScope ["_law_script","_law_k"] ["_law_script","_law_k"] (i8 a57):=#[fR,fR,fR,by decide,fR,by decide,by decide]
theorem a6h(C:Con K mg w)(F:Fun K "_law_cell_at" "_law_cell_at" a57 f fd):FnOk P w K mg base CX0 1 f fd ["_law_script","_law_k"] (a79 K):=by
 refine F.okQ afr (λvs H Q E h=>?_) (λi A outer s H vs Q E j h=>?_);let(a,ns,k,rfl,_):=h;rfl
 let(a,ns,k,rfl,g,q):=h;exists _,fc (gg (fo uq (qv 1) (gn i6 rfl C.len AJ (fg (qv 0) fb)) (fm _)) (ff (fx (my xw (qv 0) (qv 1) (λ_ _=>rfl)))) gd)
  (ff (fx dl))
 nofun
 let hl:(ns.map V.int).length=ns.length:=Ad _;refine#[_,fR,_,fR,a,_,fR,.inl g,_,_,fR,fR,_,fR,iteB (λc=>?_) (λc=>?_)]
 . let d:=fV c;rw[hl] at d;let b:k<ns.length:=by lia
   let e:le ns k=ns[k]:=by unfold le;rw[Ah b];rfl
   rw[e] at q;exact#[_,fR,_,fR,a,_,_,_,fR,fR,g,jo (by rw[Ap,Ah b];rfl),q]
 let d:=fW c;rw[hl] at d;let b:ns.length<=k:=by lia
 let e:le ns k=0:=by unfold le;rw[BP b];rfl
 rw[e] at q;exact q
inductive spLawS(K:Aa)(vs:eZ V)(H:Hp)(Q:VK):Prop
 |mk (a:IS)(ns:eZ fB)(h0:vs=[.ref a])(h1:SqL K H a (ns.map V.int))(h2:∀H',Q (.bl eX) H'):spLawS K vs H Q
def zv(K:Aa):Sp:=λvs H Q _=>spLawS K vs H Q
theorem a8r(xs:fJ)(n:fC)(hn:n<=xs.length):cutV (xs.map V.str) eW (eV (n:fB))=(xs.take n).map V.str:=by
 unfold cutV;rw[HT.sIx_nat,HT.sIx_none,Ad,Ey hn,DQ,Eu,EW]
theorem a80(hl:H l=eV (.lst xs))(h:SqT K H b zs):SqT K (upd H l (.lst ys)) b zs:=by
 rcases h with (h|⟨o,h⟩)|h
 . let a:b≠l:=λe=>by rw[e,hl] at h;cases h
   exact .inl (.inl (by show upd H l _ b=_;rw[fh a];exact h))
 . let a:b≠l:=λe=>by rw[e,hl] at h;cases h
   exact .inl (.inr #[o,by show upd H l _ b=_;rw[fh a];exact h])
 exact .inr h
theorem a2s(h1:QG X (.Name x b) (jh i))(h2:QG X (.Name y a) (jh j))(f:autoParam (X.calm=eX) a4_)(d:autoParam ((JB [.Name x b,.Name y a] X.env).map (·.2)=assign (.Name x b) X.env::(JB [.Name y a] X.env).map (·.2)) a4_)(e:autoParam ((JB [.Name y a] X.env).map (·.2)=assign (.Name y a) X.env::(JB [] X.env).map (·.2)) a4_)(hn:autoParam ((JB [.Name x b,.Name y a] X.env).length=2) a4_)(c:autoParam ((JB [.Name x b,.Name y a] X.env).findIdx? (·.1)=eW) a4_):QG X (.Tuple [.Name x b,.Name y a] k pos) (gTup X.K 2 (uo (jh i) (uo (jh j) gNil))) :=
 #[a5j f (pw h1.run (pw h2.run a2p e) d) hn c]
theorem iteN{b:gQ}{A B:Prop}(h:b=eX)(a:B):if(!b)=eX then A else B:=by rw[h];exact a
theorem nv(h:QS X st t)(w:∀D σ H,t' D σ H->t D σ H):QS X st t':=#[λa s σ H D I q=>h.run a s σ H D I (w D σ H q)]
theorem afz(xs:eZ V)(n:fC):cutV xs eW (eV (n:fB))=xs.take n:=by
 unfold cutV;rw[HT.sIx_nat,HT.sIx_none,DQ,Eu];by_cases h:n<=xs.length;rw[Ey h];rw[Fp (by lia),AW,B0 (by lia)]
theorem v5:∀{l:eZ α}{m:eZ β}(n:fC),IZ F l m->IZ F (l.take n) (m.take n)
 |_,_,0,_=>.nil
 |_,_,_+1,.nil=>.nil
 |_,_,n+1,.cons h t=>.cons h (v5 n t)
theorem wk(d:UnR X (unaryOp op) r)(c:QE X a b):QE X (.UnaryOp op a pos) (tUn r b):=#[ag4 d c.run]
theorem a3w(h1:QG X (.Name x c) (jh i))(h2:QG X (.Name y b) (jh j))(h3:QG X (.Name z a) (jh l))(g:autoParam (X.calm=eX) a4_)(e:autoParam ((JB [.Name x c,.Name y b,.Name z a] X.env).map (·.2)=assign (.Name x c) X.env::(JB [.Name y b,.Name z a] X.env).map (·.2)) a4_)(f:autoParam ((JB [.Name y b,.Name z a] X.env).map (·.2)=assign (.Name y b) X.env::(JB [.Name z a] X.env).map (·.2)) a4_)(h:autoParam ((JB [.Name z a] X.env).map (·.2)=assign (.Name z a) X.env::(JB [] X.env).map (·.2)) a4_)(hn:autoParam ((JB [.Name x c,.Name y b,.Name z a] X.env).length=3) a4_)(d:autoParam ((JB [.Name x c,.Name y b,.Name z a] X.env).findIdx? (·.1)=eW) a4_):QG X (.Tuple [.Name x c,.Name y b,.Name z a] k pos) (gTup X.K 3 (uo (jh i) (uo (jh j) (uo (jh l) gNil)))) :=
 #[a5j g (pw h1.run (pw h2.run (pw h3.run a2p h) f) e) hn d]
def Kp(S:IS->Prop)(H H':Hp):Prop:=∀b o,H b=eV o->¬ S b->H' b=eV o
abbrev vh:JA:=top 5
def a52(x:fS):Prop:=x.length<=1000
theorem act{r:fJ}{k:fC}:cutV (r.map V.str) (eV (k:fB)) eW=(r.drop k).map V.str:=by
 unfold cutV;rw[HT.sIx_nat,HT.sIx_none,Ad];rw[List.map_drop.symm];by_cases h:k<=r.length;rw[Ey h,B0 (by simp)];rw[Fp (by lia),IE,Cd,FO (by lia)];rfl
def ju(rs:fG):Prop:=rs.length<=200/\∀r∈rs,r.length<=5/\∀x∈r,a52 x
def l0(r:fJ):fJ:=(r.drop 1).filter λx => !decide (x∈Mir.noNames)
def ii(rs:fG):fJ:=(rs.map l0).flatten
theorem a5q(a b:fG):ii (a++b)=ii a++ii b:=by unfold ii;rw[Ax,BO]
theorem a4e(a:fG)(r:fJ):ii (a++[r])=ii a++l0 r:=by rw[a5q];unfold ii;simp
theorem qb:∀{rs:fG}{m:fC},(∀r∈rs,r.length<=m)->(ii rs).length<=rs.length*m
 |[],m,_=>by simp[ii]
 |r::rs,m,h=>by
  let h1:=qb (rs:=rs) (m:=m) (λx a=>h x (Ag _ a));let h2:(l0 r).length<=m:=by
   unfold l0;let:=B4 (λx => !decide (x∈Mir.noNames)) (r.drop 1);let:=h r (Af ..);let e:=By (i:=1) (l:=r)
   lia
  let e:ii (r::rs)=l0 r++ii rs:=by simp[ii]
  rw[e,Aj,Au,IF]
  lia
inductive spNmOfS(K:Aa)(vs:eZ V)(H:Hp)(Q:VK):Prop
 |mk (a fs ps)(h0:vs=[.ref a])(h1:TellAt K H a [fs,ps])(h2:ju fs)(h3:ju ps)(h4:(∀r∈fs++ps,r≠[]))(h5:(∀ss:fJ,ss.Nodup->(∀y∈ss,y∈ii (fs++ps))->ss.length<64))(h6:∀(p:IS) (zs:fJ) (H':Hp),H p=eW->Same H H'->H' p=eV (.lst (zs.map V.str))->zs.Nodup->(∀y,y∈zs↔y∈ii (fs++ps))->PyProof.Rows.sortedS zs=eX->Q (.ref p) H'):spNmOfS K vs H Q
def a1s(K:Aa):Sp:=λvs H Q _=>spNmOfS K vs H Q
theorem scNamesOf:FnScope ["telling","names","row"] ["telling"] (i8 vh):=#[fR,fR,fR,by decide,fR,by decide,by decide]
theorem a4s(C:Con K mg w)(F:Fun K "names_of" "names_of" vh f fd):FnOk P w K mg base CX0 1 f fd ["telling"] (a1s K):=by
 refine F.ok scNamesOf (λvs H Q E h=>?_) (λag A outer s H vs Q E T h=>?_);let(a,fs,ps,rfl,_):=h;rfl
 let(a,fs,ps,rfl,ht,hf,hp,Z,ae,q):=h;let(aN,gN,tN):=C.noNames;let(as,t1,t2):=ht;cases t2 with
 | @cons fa _ _ _ t3 t4 =>
 cases t4 with
 | @cons pa _ _ _ t5 t6 =>
 cases t6;let(d,f1,f2):=t3;let(g,p1,p2):=t5;exists _,vm (a81 scNamesOf.nd (i:=1) rfl (Or.inl rfl) (a1h t9))
  (vm (a5x A1 rfl (a3f (abn lc (a58 n9 (pv 0) tp (λ_ _=>rfl)) (a58 n9 (pv 0) tp (λ_ _=>rfl)))) (a2c (i:=2) scNamesOf.nd rfl (Or.inl rfl))
   (xc (a2r (abq A8 CJ CK qo (pv 1)
    (kl (a1n (a7f (a1g a5y (pv 2) (a2a tp) a3s)) (λ_ _ _ _=>a3b (a3u (show OpR _ _ (rIn K eX) from a02) (pv 0) (pe_g gN) (by with_unfolding_all rfl))) (λ_ _ _ _=>pv 0)) t9)))))
   (xc (a7x (a18 (qd rfl) rfl C.sorted Fq (kl (ya (a1i rfl) rfl C.set Ee (kl (pv 1) t9)) t9)))))
 refine#[AF _,λn hn=>?_];let s1:Same H (upd H n (.lst [])):=fe hn _;let fl:d.length=fs.length:=A3 f2;let pl:g.length=ps.length:=A3 p2;let b1:=hf.1;let b2:=hp.1;exists _,fR,a,_,0,.ref fa,fR,fR,s1.seqT t1,fR,_,fR,a,_,1,.ref pa,fR,fR,s1.seqT t1,rfl;refine#[fa,pa,_,_,fR,fR,s1 _ _ f1,s1 _ _ p1,?_,λc Y=>?_];rw[Ad,Ad];exact B7 (kt (by lia))
 let O:c≠n:=λe=>by rw[e,ad] at Y;cases Y
 rw[<- Ax];let s2:=fe Y (.lst ((d++g).map V.ref));exists c,fR,#[_,SqL.of ad];let pr:IZ (λb r=>RowAt K H b r) (d++g) (fs++ps):=Paired.app f2 p2;let ac:(d++g).length=(fs++ps).length:=A3 pr;let j:∀r∈fs++ps,r.length<=5:=λr T=>by
  rcases Ab.mp T with h|h;exact(hf.2 r h).1;exact(hp.2 r h).1
 refine jj (xs:=(d++g).map V.ref) (λi σ H'=>Same H H'/\H' c=eV (.lst ((d++g).map V.ref))/\H' n=eV (.lst ((ii ((fs++ps).take i)).map V.str))/\∃z,σ=[eV (.ref a),eV (.ref n),z]) #[s1.trans s2,ad,?_,_,fR] (λi σ H' _ p=>SqL.of p.2.1) ?_ ?_;rw[fh (AE O),ad];rfl
 . rintro i v σ H' hi ⟨e,G,o,z,rfl⟩
   nofun
   rw[Ap] at hi;cases hb:(d++g)[i]? with
   |none=>rw[hb] at hi;cases hi
   |some b =>
    rw[hb] at hi;let hv:v=.ref b:=(Am hi).symm;subst hv;let(r,R,aa):=Paired.nth pr hb;let I:r∈fs++ps:=Ar R;let J:RowAt K H' b r:=aa.same e;let ai:=j r I;let ah:r.length≠0:=λh=>Z r I (List.length_eq_zero_iff.mp h);refine#[_,fR,.inl #[fR,_,SqL.of o],_,fR,_,fR,b,_,fR,J,?_,λt hT=>?_];rw[Ad,show(eV (1:fB))=eV ((1:fC):fB) from rfl,HT.sIx_nat];lia
    let e1:cutV (r.map V.str) (eV 1) eW=(r.drop 1).map V.str:=act (k:=1);rw[e1];let X:Same H' (upd H' t (.tup ((r.drop 1).map V.str))):=fe hT _;exists t,fR,#[_,SqT.of ad];refine vr ((r.drop 1).map V.str) (λv => !inV v (Mir.noNames.map V.str)) id ab8 (SqT.of ad) ?_ ?_ ?_ ?_;rw[Ad,By];exact B7 (kt (by lia));intro v hv N e2 Q' B;let(y,U,rfl):=As.mp hv;exact#[_,fR,aN,_,fR,.inr (tN _),fR,q7 _,_,fR,B N (Same.refl _)];intro v hv ak N e2 Q' B;let(y,U,rfl):=As.mp hv;exact#[_,fR,B N (Same.refl _)]
    intro D N hD e' hd;let hw:(((r.drop 1).map V.str).filter (λv => !inV v (Mir.noNames.map V.str))).map id=(l0 r).map V.str:=by
     rw[IL,Ez];unfold l0
     congr 1
     apply DV;intro x _;show(!inV (.str x) (Mir.noNames.map V.str))=_;rw[vt]
    rw[hw] at hd;let s4:Same H N:=(e.trans X).trans e';let W:(fs++ps).take (i+1)=(fs++ps).take i++[r]:=by rw[AL,R];rfl
    let wl:=qb j;let aj:(ii ((fs++ps).take i)).length<=200*5+200*5:=by
     let h1:=qb (rs:=(fs++ps).take i) (m:=5) (λr T=>j r (Bp T));let h2:=List.length_take_le' i (fs++ps);rw[Aj] at h2
     lia
    let af:(l0 r).length<=5:=by
     unfold l0;let h1:=B4 (λx => !decide (x∈Mir.noNames)) (r.drop 1);let h2:=By (i:=1) (l:=r)
     lia
    exists n,D,_,_,fR,fR,e' _ _ (X _ _ o),hd,?_;rw[Ad,Ad];exact AA (by lia) (show(2005:fC)<=IR by decide)
    refine#[λb' u B=>?_,?_,?_,_,fR];rw[fh (gc B hn)];exact s4 _ _ B;rw[fh O];exact e' _ _ (X _ _ G);rw[ad,W,a4e,Ax]
 rintro σ H' ⟨e,G,o,z,rfl⟩;rw[Ad,ac,AW] at o;refine#[_,fR,n,_,fR,SqL.of o,?_,λS ss hS hd=>?_]
 . let wl:=qb j;rw[Aj] at wl;show _<4096
   lia
 let s5:=fe hS (SetO P w S ss);refine#[S,ss,fR,ad,ae ss hd.nodup (λy U=>(hd.mem y).mp U),λp zs M L ab=>?_];let s6:=fe M (.lst (zs.map V.str));refine q p zs _ ?_ (e.trans (s5.trans s6)) ad (L.nodup_iff.mpr hd.nodup) (λy=>(L.mem_iff).trans (hd.mem y)) ab;cases hH:H p with|none=>rfl|some u=>exact nomatch (s5 _ _ (e _ _ hH)).symm.trans M
theorem mem_words:y∈ii rs↔∃r∈rs,y∈r.drop 1/\¬ y∈Mir.noNames:=by
 unfold ii l0;simp only[Bz,As];constructor;rintro⟨l,⟨r,b,rfl⟩,a⟩;rw[Bc] at a;exact#[r,b,a.1,by simpa using a.2];rintro⟨r,b,a,hn⟩;exact#[_,#[r,b,fR],Bc.mpr #[a,by simpa using hn]]
end K37
namespace L2
def dS(m:fH):eZ (Key×V):=m.map λp=>(Sum.inr p.1,V.str p.2)
def lkS(m:fH)(x:fS):fA fS:=(m.find? λp=>decide (p.1=x)).map (·.2)
theorem qu:∀(m:fH) (x:fS),valV (dS m) (Sum.inr x)=(lkS m x).map V.str
 |[],x=>rfl
 |p::m,x=>by
  let c:=qu m x;by_cases h:p.1=x
  . let b:valV (dS (p::m)) (Sum.inr x)=eV (.str p.2):=il (p:=((Sum.inr p.1,V.str p.2):Key×V)) (show(Sum.inr p.1:Key)=Sum.inr x by rw[h]);let a:lkS (p::m) x=eV p.2:=by unfold lkS;simp[Ba,h]
    rw[b,a];rfl
  let b:valV (dS (p::m)) (Sum.inr x)=valV (dS m) (Sum.inr x):=iw (p:=((Sum.inr p.1,V.str p.2):Key×V)) (show ¬ (Sum.inr p.1:Key)=Sum.inr x from λz=>h (BR z));let a:lkS (p::m) x=lkS m x:=by unfold lkS;simp[Ba,h]
  rw[b,a,c]
def putS(m:fH)(x:fS)(z:fS):fH:=if(m.any λp=>decide (p.1=x))=eX then m.map (λp=>if p.1=x then(p.1,z) else p) else m++[(x,z)]
theorem a3r(m:fH)(x:fS)(z:fS):putK (dS m) (Sum.inr x) (.str z)=dS (putS m x z):=by
 unfold putK putS dS;let c:∀a b:fS,decide ((Sum.inr a:Key)=Sum.inr b)=decide (a=b):=λa b=>by
  by_cases h:a=b;subst h;simp;rw[fT h,fT (λz=>h (BR z))]
 let e:(m.map (λp=>((Sum.inr p.1,V.str p.2):Key×V))).any (λkv=>decide (kv.1=(Sum.inr x:Key)))=m.any λp=>decide (p.1=x):=by
  rw[Dj]
  congr 1
  funext p
  exact c p.1 x
 rw[e];split
 . rw[Bu,Bu];apply Cm;intro p _;show(if(Sum.inr p.1:Key)=Sum.inr x then _ else _)=_;by_cases h:p.1=x
   . rw[fE (by rw[h])];show _=((Sum.inr (if p.1=x then(p.1,z) else p).1,V.str (if p.1=x then(p.1,z) else p).2):Key×V)
     rw[fE h]
   rw[fD (λz=>h (BR z))];show _=((Sum.inr (if p.1=x then(p.1,z) else p).1,V.str (if p.1=x then(p.1,z) else p).2):Key×V)
   rw[fD h]
 rw[Ax];rfl
theorem a3k:∀(m:fH) (y:fS),lkS (m.map λp=>if p.1=x then(p.1,z) else p) y=if y=x then(lkS m x).map (λ_=>z) else lkS m y
 |[],y=>by unfold lkS;simp
 |p::m,y=>by
  let a:=a3k (x:=x) (z:=z) m y;let c:∀(q:fS×fS) (l:fH) (w:fS),lkS (q::l) w=if q.1=w then eV q.2 else lkS l w:=λq l w=>by
   unfold lkS;rw[Ba];by_cases h:q.1=w;simp[h];simp[h]
  rw[A5,c,c,c,a];by_cases h1:p.1=x;by_cases h2:y=x;subst h2;simp[h1];let h3:¬ x=y:=λz=>h2 z.symm;simp[h1,h2,h3]
  by_cases h2:y=x;subst h2;simp[h1];simp[h1,h2]
theorem uu(m:fH)(x:fS)(z:fS)(y:fS):lkS (putS m x z) y=if y=x then eV z else lkS m y:=by
 unfold putS;split
 . rename_i h;rw[a3k];by_cases h2:y=x
   . rw[fE h2,fE h2];let:(lkS m x).isSome=eX:=by
      unfold lkS;rw[CA];rw[Hy];rw[AV] at h;exact h
     cases hl:lkS m x with|none=>rw[hl] at this;cases this|some v=>rfl
   rw[fD h2,fD h2]
 rename_i h;let hn:∀p∈m,¬ p.1=x:=λp hp z=>h (AV.mpr #[p,hp,by simp[z]]);unfold lkS;rw[Hz];by_cases h2:y=x;subst h2;rw[fE rfl,BA.mpr (λp hp=>by simp[hn p hp])];simp;let h3:¬ x=y:=λz=>h2 z.symm;rw[fD h2];simp[h3]
theorem aai(m:fH)(x:fS)(z:fS):(putS m x z).length<=m.length+1:=by
 unfold putS;split;rw[Ad];lia;rw[Aj,Av];lia
theorem w4(m:fH)(x z y:fS):(lkS (putS m x z) y).isSome=eX↔y=x\/(lkS m y).isSome=eX:=by
 rw[uu];by_cases h:y=x;rw[fE h];simp[h];rw[fD h];simp[h]
theorem lkS_mem:(lkS m x).isSome=eX↔x∈m.map (·.1):=by
 unfold lkS;rw[CA,Hy];constructor;rintro⟨p,hp,e⟩;exact As.mpr #[p,hp,fV e];intro h;let(p,hp,rfl):=As.mp h;exact#[p,hp,by simp]
end L2
namespace Kn
open L2
inductive Conn(F:fG):fS->fS->Prop
 |refl (x:fS):Conn F x x
 |fact{u v:fS}(h:[("is":fS),u,v]∈F):Conn F u v
 |symm{x y:fS}(h:Conn F x y):Conn F y x
 |trans{x y z:fS}(h1:Conn F x y)(h2:Conn F y z):Conn F x z
theorem Conn.mono(h:∀r∈F,r∈G)(c:Conn F x y):Conn G x y:=by
 induction c with|refl x=>exact .refl x|fact h1=>exact .fact (h _ h1)|symm _ ih=>exact ih.symm|trans _ _ i1 i2=>exact i1.trans i2
def sq(h:fS->fS)(r:fJ):fS->fS:=if r.getD 0 ""="is" then λx=>if h x=h (r.getD 2 "") then h (r.getD 1 "") else h x else h
def fq(F:fG):fS->fS:=F.foldl sq id
theorem rq(F:fG)(r:fJ):fq (F++[r])=sq (fq F) r:=by unfold fq;rw[Fg];rfl
def i5(r:fJ):Prop:=∃k u v:fS,r=[k,u,v]/\(k="is" \/ k="not")
theorem a82:∀(n:fC) (F:fG),F.length=n->(∀r∈F,i5 r)->∀x y,fq F x=fq F y↔Conn F x y:=by
 intro n;induction n with
 |zero =>
  intro F hl hF x y;let:F=[]:=Ci hl;subst this;constructor;intro h;let h':x=y:=h;subst h';exact .refl x
  intro c;show x=y;induction c with|refl x=>rfl|fact h=>cases h|symm _ ih=>exact ih.symm|trans _ _ i1 i2=>exact i1.trans i2
 |succ n ih =>
  intro F hl hF;let f:F≠[]:=λz=>by rw[z] at hl;cases hl
  obtain⟨G,r,rfl⟩:∃G r,F=G++[r]:=#[F.dropLast,F.getLast f,(List.dropLast_concat_getLast f).symm]
  let j:G.length=n:=by rw[Aj] at hl;simpa using hl
  let hG:∀r'∈G,i5 r':=λr' h=>hF r' (Ab.mpr (.inl h));let I:=ih G j hG;let mono:∀{x y},Conn G x y->Conn (G++[r]) x y:=λc=>c.mono λr' h=>Ab.mpr (.inl h);let(k,u,v,rfl,l):=hF r (Ab.mpr (.inr (Ae.mpr rfl)));intro x y;rw[rq];unfold sq;rcases l with rfl|rfl
  . rw[fE (show([("is":fS),u,v].getD 0 "")="is" from rfl)];show(if fq G x=fq G v then fq G u else fq G x)=(if fq G y=fq G v then fq G u else fq G y)↔_;let g:Conn (G++[[("is":fS),u,v]]) u v:=.fact (Ab.mpr (.inr (Ae.mpr rfl)));constructor
    . intro h;by_cases d:fq G x=fq G v;by_cases e:fq G y=fq G v;exact mono ((I x y).mp (d.trans e.symm));rw[fE d,fD e] at h;exact(mono ((I x v).mp d)).trans (g.symm.trans (mono ((I u y).mp h)))
      by_cases e:fq G y=fq G v;rw[fD d,fE e] at h;exact(mono ((I x u).mp h)).trans (g.trans (mono ((I y v).mp e)).symm);rw[fD d,fD e] at h;exact mono ((I x y).mp h)
    intro c;induction c with
    |refl x=>rfl
    | @fact a b h =>
     rcases Ab.mp h with h|h;let:=(I a b).mpr (.fact h);rw[this]
     let h':=Ae.mp h;simp only[Ih,and_true,true_and] at h';let(rfl,rfl):=h';rw[fE rfl];by_cases d:fq G a=fq G b;rw[fE d];rw[fD d]
    |symm _ ih=>exact ih.symm
    |trans _ _ i1 i2=>exact i1.trans i2
  let i:¬ ("not":fS)="is" := by decide
  rw[fD (show ¬ ([("not":fS),u,v].getD 0 "")="is" from i)];rw[I x y];constructor;exact mono
  intro c;induction c with
  |refl x=>exact .refl x
  | @fact a b h =>
   rcases Ab.mp h with h|h;exact .fact h;let h':=Ae.mp h;simp only[Ih] at h';exact fF h'.1.symm i
  |symm _ ih=>exact ih.symm
  |trans _ _ i1 i2=>exact i1.trans i2
theorem j8(hF:∀r∈F,i5 r)(x y:fS):fq F x=fq F y↔Conn F x y:=a82 F.length F rfl hF x y
def hdS(m:fH)(x:fS):fS:=(lkS m x).getD x
structure HeadsOk(m:fH)(h:fS->fS):Prop where
 hd:∀x,hdS m x=h x
 key:∀x v,lkS m x=eV v->(lkS m v).isSome=eX
theorem HeadsOk.start:HeadsOk [] id:=#[λ_=>rfl,λx v h=>by cases h]
theorem HeadsOk.dflt(H:HeadsOk m h)(b:lkS m u=eW):HeadsOk (putS m u u) h/\h u=u:=by
 let e:h u=u:=by rw[<- H.hd];unfold hdS;rw[b];rfl
 refine#[#[λx=>?_,λx v hv=>?_],e];unfold hdS;rw[uu];by_cases a:x=u;rw[fE a,a,e];rfl;rw[fD a];exact H.hd x
 rw[w4];rw[uu] at hv;by_cases a:x=u;rw[fE a] at hv;exact .inl (Am hv).symm;rw[fD a] at hv;exact .inr (H.key x v hv)
def mv(g k z:fS):fS:=if z=g then k else z
theorem afy(g k z:fS):mv g k (mv g k z)=mv g k z:=by
 unfold mv;by_cases h:z=g;rw[fE h];split<;>rfl;rw[fD h,fD h]
theorem HeadsOk.step(H:HeadsOk m h)(f:(lkS m u).isSome=eX)(hv:(lkS m v).isSome=eX)(hm:∀x,lkS d x=(lkS m x).map (mv (h v) (h u))):HeadsOk d (sq h [("is":fS),u,v]):=by
 let val:∀{y:fS},(lkS m y).isSome=eX->lkS m y=eV (h y):=λ{y} c=>by
  let(z,hz):=Bd.mp c;rw[hz,<- H.hd];unfold hdS;rw[hz];rfl
 let e:∀x,sq h [("is":fS),u,v] x=mv (h v) (h u) (h x):=λx=>by
  unfold sq;rw[fE (show([("is":fS),u,v].getD 0 "")="is" from rfl)];rfl
 refine#[λx=>?_,λx z hz=>?_]
 . rw[e];unfold hdS;rw[hm];cases hx:lkS m x with
   |some z =>
    let:=val (y:=x) (by rw[hx];rfl);rw[hx] at this;rw[Am this];rfl
   |none =>
    let a:h x=x:=by rw[<- H.hd];unfold hdS;rw[hx];rfl
    show x=mv (h v) (h u) (h x);unfold mv;rw[a,fD];intro z;let:=H.key v (h v) (val hv);rw[<- z,hx] at this;cases this
 rw[hm] at hz;cases hx:lkS m x with
 |none=>rw[hx] at hz;cases hz
 |some y =>
  rw[hx] at hz;let b:mv (h v) (h u) y=z:=Am hz;let k:(lkS m z).isSome=eX:=by
   rw[<- b];unfold mv;split;exact H.key u (h u) (val f);exact H.key x y hx
  rw[hm,CA];exact k
end Kn
namespace K37
open L2 Mir Kn
abbrev w6:JA:=top 18
theorem gh(h:X.K=K)(c:QE X e b)(a:autoParam (JJ e fl X.env (eval e X.env)=eval e X.env) a4_):QE X (.Attribute e fl pos) (tFld K b fl):=by subst h;exact afa c a
theorem kq(h:X.K=K)(d:QE X o b)(hv:QE X value e)(c:autoParam (JN value (eV (.Attribute o fl a)) pos.line X.env=pure eY) a4_):QS X (.Assign [.Attribute o fl a] value pos) (sFld K b e fl):=by subst h;exact aem d hv c
inductive spHeadsOfS(K:Aa)(vs:eZ V)(H:Hp)(Q:VK):Prop
 |mk (fl:IS)(F:fG)(h0:vs=[.ref fl])(h1:RowsAt K H fl F)(h2:F.length<=100)(h3:(∀r∈F,i5 r))(h4:∀hd hm H',Same H H'->H hd=eW->H' hd=eV (.dK (dS hm))->hm.length<=2*F.length->HeadsOk hm (fq F)->Q (.ref hd) H'):spHeadsOfS K vs H Q
def yv(K:Aa):Sp:=λvs H Q _=>spHeadsOfS K vs H Q
inductive tDefS(K:Aa)(i j:fC)(D:Ends)(σ:St)(H:Hp):Prop
 |mk (hd b:IS)(r:fJ)(u:fS)(hm:fH)(h:fS->fS)(h0:σ[1]?=eV (eV (.ref hd)))(h1:σ[2]?=eV (eV (.ref b)))(h2:RowAt K H b r)(h3:r[j]?=eV u)(h4:H hd=eV (.dK (dS hm)))(h5:hm.length<=1000)(h6:HeadsOk hm h)(h7:∀hm' H',Kp (· = hd) H H'->H' hd=eV (.dK (dS hm'))->hm'.length<=hm.length+1->HeadsOk hm' h->(lkS hm' u).isSome=eX->(∀x,(lkS hm x).isSome=eX->(lkS hm' x).isSome=eX)->D.nx (σ.set i (eV (.str (h u)))) H'):tDefS K i j D σ H
def tDef(K:Aa)(i j:fC):TS:=λD σ H=>tDefS K i j D σ H
theorem a0t(i j:fC)(D:Ends)(σ:St)(H:Hp)(k:tDef K i j D σ H):
 tAsg (a4k (tVar 1) (tOp (rIxT K) (tVar 2) (tC (.int (j:fB)))) (tOp (rIxT K) (tVar 2) (tC (.int (j:fB))))) (jh i) D σ H:=by
 let(hd,b,r,u,hm,h,h1,h2,d,g,c,hl,hok,go):=k;let a:atI (r.map V.str) (j:fB)=eV (.str u):=jo (by rw[Ap,g];rfl);refine#[_,h1,hd,fR,.inl #[_,.inl c],_,h2,b,_,_,.str u,fR,fR,d,a,_,h2,b,_,_,.str u,fR,fR,d,a,dS hm,Sum.inr u,c,fR,?_,λv hv=>?_,λhn=>?_];unfold dS;rw[Ad];exact AI hl (by decide)
 . rw[qu] at hv;cases hz:lkS hm u with
   |none=>rw[hz] at hv;cases hv
   |some z =>
    rw[hz] at hv;let e:v=.str z:=(Am hv).symm;let l:h u=z:=by rw[<- hok.hd];unfold hdS;rw[hz];rfl
    let:=go hm H (λ_ _ z _=>z) c (by lia) hok (by rw[hz];rfl) (λ_ z=>z);rw[l] at this;rw[e];exact this
 rw[qu] at hn;let hz:lkS hm u=eW:=by
  cases hz:lkS hm u with|none=>rfl|some z=>rw[hz] at hn;cases hn
 let(h1,h2):=hok.dflt hz;rw[a3r];let:=go (putS hm u u) _ (λb o q n=>by rw[fh n];exact q) ad (aai _ _ _) h1 (by rw[w4];exact .inl rfl) (λx f=>by rw[w4];exact .inr f);rw[h2] at this;exact this
theorem scHeadsOf:FnScope ["facts","heads","fact","kept","gone","name"] ["facts"] (i8 w6):=#[fR,fR,fR,by decide,fR,by decide,by decide]
theorem a4r(C:Con K mg w)(F:Fun K "heads_of" "heads_of" w6 f fd):FnOk P w K mg base CX0 1 f fd ["facts"] (yv K):=by
 refine F.okQ scHeadsOf (λvs H Q E h=>?_) (λaC A outer s0 H vs Q E hr h=>?_);let(fl,F,rfl,_):=h;rfl
 let(fl,S,rfl,hF,hl,ai,q):=h;let nd:=scHeadsOf.nd;let aa:=j4 hr;exists _,fc (u7 (i:=1) nd rfl (Or.inl rfl) lx)
  (fc (im A1 rfl (iq (qv 0)) (xp (i:=2) nd rfl (Or.inl rfl)) (ff (gg (fo gk (my n9 (qv 2) dl (λ_ _=>rfl)) gj (fm _)) (fc (nv (t':=tDef K 3 1) (u7 (i:=3) nd rfl (Or.inl rfl) (xz (qv 1) (my n9 (qv 2) dl (λ_ _=>rfl)) (my n9 (qv 2) dl (λ_ _=>rfl)))) (a0t 3 1))
  (fc (nv (t':=tDef K 4 2) (u7 (i:=4) nd rfl (Or.inl rfl) (xz (qv 1) (my n9 (qv 2) dl (λ_ _=>rfl)) (my n9 (qv 2) dl (λ_ _=>rfl)))) (a0t 4 2))
  (ff (im A1 rfl (iq (iz (lg rfl) rfl C.list Be (fg (qv 1) fb))) (xp (i:=5) nd rfl (Or.inl rfl)) (ff (gg (fo gk (ik aa (qv 1) (qv 5) (λ_ _=>rfl)) (qv 4) (fm _)) (ff (jg aa (qv 1) (qv 5) (qv 3))) gd)))))) gd)))
  (ff (fx (qv 1))))
 nofun
 intro hd G;let s1:=fe G (.dK (dS []));let(az,al,am):=hF;let ag:=A3 am;exists _,fR,fl,fR,#[_,SqL.of (s1 _ _ al)];refine jj (xs:=az.map V.ref) (λi σ H'=>Same H H'/\Ex5 λ(hm:fH) (z2 z3 z4 z5:fA V)=>And4 (H' hd=eV (.dK (dS hm))) (hm.length<=2*i) (HeadsOk hm (fq (S.take i))) (σ=[rQ fl,rQ hd,z2,z3,z4,z5]))
  #[s1,[],eW,eW,eW,eW,ad,AF _,HeadsOk.start,fR] (λi σ H' _ p=>SqL.of (p.1 _ _ al)) ?_ ?_
 . rintro i x σ H' hi ⟨e,hm,z2,z3,z4,z5,hD,U,hok,rfl⟩
   nofun
   let(b,hb,rfl):=lk hi;let(r,Z,aq):=Paired.nth am hb;let aI:i<S.length:=(Ao.mp Z).1;let(k,u,v,rfl,hk):=ai r (Ar Z);let hR:=aq.same e;let aj:S.take (i+1)=S.take i++[[k,u,v]]:=by rw[AL,Z];rfl
   refine#[_,fR,b,_,0,.str k,fR,fR,hR,fR,fR,_,fR,iteB (λc=>?_) (λc=>?_)]
   . let aA:k="is" := by simpa using c
     subst aA;let kr:∀{Y:Hp},Kp (· = hd) H' Y->∀{t:IS} {r:fJ},RowAt K H' t r->RowAt K Y t r:=λ{Y} kp {t r} ar=>by
      rcases ar with (z|⟨o,z⟩)|z
      . exact .inl (.inl (kp _ _ z λy=>by let y':t=hd:=y;rw[y',hD] at z;cases z))
      . exact .inl (.inr #[o,kp _ _ z λy=>by let y':t=hd:=y;rw[y',hD] at z;cases z])
      exact .inr z
     refine#[hd,b,_,u,hm,_,fR,fR,hR,fR,hD,by lia,hok,λan H1 k1 aw aH ap af ay=>?_];refine#[hd,b,_,v,an,_,fR,fR,kr k1 hR,fR,aw,by lia,ap,λa Y k2 N aF ak au W=>?_];let M:Kp (· = hd) H' Y:=λb o q n=>k2 b o (k1 b o q n) n;let aE:=kr M hR;refine#[_,fR,hd,_,fR,N,λL T=>?_];let ek:((dS a).map λkv=>kV kv.1)=(a.map (·.1)).map V.str:=by unfold dS;rw[Bu,Bu];rfl
     rw[ek];let s3:=fe T (.lst ((a.map (·.1)).map V.str));let B:L≠hd:=AE (gc N T);let aB:a.length<=2*(i+1):=by lia
     let aD:H L=eW:=by
      cases q:H L with
      |none=>rfl
      |some o =>
       let:=M L o (e _ _ q) (λz=>B z);rw[T] at this;cases this
     let val:∀{y:fS},(lkS a y).isSome=eX->lkS a y=eV (fq (S.take i) y):=λ{y} hy=>by
      let(z,hz):=Bd.mp hy;rw[hz,<- ak.hd];unfold hdS;rw[hz];rfl
     generalize hg:fq (S.take i) v=d at*;generalize hkp:fq (S.take i) u=kept at*;exists L,fR,#[_,SqL.of ad];let X:∀{Hx:Hp},Kp (· = hd) (upd Y L (.lst ((a.map (·.1)).map V.str))) Hx->Same H Hx:=λ{Hx} kp t o' q=>kp t o' (s3 _ _ (M _ _ (e _ _ q) λz=>by let z':t=hd:=z;rw[z',G] at q;cases q)) λz=>by let z':t=hd:=z;rw[z',G] at q;cases q
     refine jj (xs:=(a.map (·.1)).map V.str) (λj σ H3=>Kp (· = hd) (upd Y L (.lst ((a.map (·.1)).map V.str))) H3/\Ex2 λ(l:fH) (z5:fA V)=>And4 (H3 hd=eV (.dK (dS l))) (l.length<=a.length) ((∀x,lkS l x=if x∈(a.map (·.1)).take j then(lkS a x).map (mv d kept) else lkS a x)) (σ=[rQ fl,rQ hd,rQ b,eV (.str kept),eV (.str d),z5]))
      #[λ_ _ q _=>q,a,z5,by rw[fh (AE B)];exact N,An _,λx=>by simp,fR] (λj σ H3 _ p=>SqL.of (p.1 _ _ ad λz=>B z)) ?_ ?_
     . rintro j x σ H3 hj ⟨k3,l,ao,D,ae,s,rfl⟩
       nofun
       obtain⟨nm,ah,rfl⟩:∃nm,(a.map (·.1))[j]?=eV nm/\x=.str nm:=by
        rw[Ap] at hj;cases hz:(a.map (·.1))[j]? with|none=>rw[hz] at hj;cases hj|some nm=>rw[hz] at hj;exact#[nm,fR,(Am hj).symm]
       let av:(lkS a nm).isSome=eX:=lkS_mem.mpr (Ar ah);let(z0,O):=Bd.mp av;obtain⟨J,R,ab⟩:∃J,lkS l nm=eV J/\mv d kept J=mv d kept z0:=by
        let:=s nm;rw[O] at this;by_cases hm:nm∈(a.map (·.1)).take j;rw[fE hm] at this;exact#[_,this,afy _ _ _];rw[fD hm] at this;exact#[_,this,fR]
       let m:∀x,x∈(a.map (·.1)).take (j+1)↔x∈(a.map (·.1)).take j\/x=nm:=λx=>by
        rw[AL,ah,Ab];simp
       let gv:DGet H3 hd (.str nm) (eV (.str J)):=by
        let g:=DGet.k (k:=Sum.inr nm) D;rw[qu,R] at g;exact g
       refine#[_,fR,_,fR,hd,.str J,fR,gv,_,fR,fR,_,fR,iteB (λc=>?_) (λc=>?_)]
       . let hc:J=d:=by simpa using c
         exists _,fR,_,fR,_,fR,hd,_,fR,DPut.k (k:=Sum.inr nm) D ?_;unfold dS;rw[Ad];exact AI (show l.length<=1000 by lia) (by decide)
         rw[a3r];let aG:(putS l nm kept).length<=l.length:=by
          unfold putS;rw[fE,Ad];exact An _;let:=lkS_mem.mp (show(lkS l nm).isSome=eX by rw[R];rfl);let(p,hp,e):=As.mp this;exact AV.mpr #[p,hp,by simpa using e]
         refine#[λt o' q n=>by rw[fh n];exact k3 t o' q n,putS l nm kept,_,ad,by lia,λx=>?_,fR];rw[uu];by_cases I:x=nm;rw[fE I,fE ((m x).mpr (.inr I)),I,O];show eV kept=eV (mv d kept z0);rw[<- ab,hc];unfold mv;rw[fE rfl]
         rw[fD I,s x];by_cases hm:x∈(a.map (·.1)).take j;rw[fE hm,fE ((m x).mpr (.inl hm))];rw[fD hm,fD λz=>((m x).mp z).elim hm I]
       let hc:¬ J=d:=by simpa using c
       refine#[k3,l,_,D,ae,λx=>?_,fR];by_cases I:x=nm;rw[fE ((m x).mpr (.inr I)),I,R,O];show eV J=eV (mv d kept z0);rw[<- ab];unfold mv;rw[fD hc]
       rw[s x];by_cases hm:x∈(a.map (·.1)).take j;rw[fE hm,fE ((m x).mpr (.inl hm))];rw[fD hm,fD λz=>((m x).mp z).elim hm I]
     rintro σ H3 ⟨k3,l,ao,D,ae,s,rfl⟩;rw[Ad,AW] at s;let ac:∀x,lkS l x=(lkS a x).map (mv d kept):=λx=>by
      rw[s x];by_cases hm:x∈a.map (·.1);rw[fE hm]
      rw[fD hm];cases hz:lkS a x with|none=>rfl|some z=>exact fF (lkS_mem.mp (show(lkS a x).isSome=eX by rw[hz];rfl)) hm
     refine#[X k3,l,_,_,_,_,D,by lia,?_,fR];rw[aj,rq];exact ak.step (W u af) au (by rw[hg,hkp];exact ac)
   let ax:¬ k="is" := by simpa using c
   refine#[e,hm,_,_,_,_,hD,by lia,?_,fR];rw[aj,rq];unfold sq;rw[fD (show ¬ ([k,u,v].getD 0 "")="is" from ax)];exact hok
 rintro σ H' ⟨e,hm,z2,z3,z4,z5,hD,U,hok,rfl⟩;rw[Ad,ag] at U hok;rw[AW] at hok;exact#[_,fR,q hd hm H' e G hD U hok]
theorem gm(F:FnOk X.prog X.w X.K X.mg X.base CX0 k f fd ps sp)(hr:Room k X.A)(c:Cal X.K X.mg x f fd ps)(ha:QA X (e::es) t)(hg:autoParam (Gl X x) a4_)(hdb:autoParam ((x==("__debug__":fS))=eY) a1_)(he:autoParam (IW (e::es) X.env=(eY,eval e X.env)::IW es X.env) a4_)(hpl:autoParam ((JF pos (IW es X.env)).any (·.1)=eY) a4_):QE X (.Call (.Name x p) (e::es) [] pos) (zp sp [] E0 t):=oz F hr hg c.name c.keep c.bind .nil gt ha hdb he hpl
abbrev aby:JA:=ir (top 20) 0
abbrev abm:JA:=ir (top 20) 1
abbrev a7g:JA:=ir (top 20) 2
abbrev a2j:JA:=ir (top 20) 3
abbrev a6v:JA:=ir (top 20) 4
abbrev a0q:JA:=ir (top 20) 5
abbrev yi:JA:=ir (top 20) 6
abbrev a7c:JA:=ir (top 20) 7
abbrev a5i:JA:=ir (top 20) 8
abbrev a6k:JA:=ir (top 20) 9
def yu:fJ:=["__init__","head","alike","unlike","tell_unlike","is_empty","must_be_full","find_fulls","tell_full","clashing","shares_place","open_ends","number_at"]
structure Txt(K:Aa)(mg:fS->fA IT)(C fI:IS):Prop where
 cl:Cls K C
 nP:NoAttr K C "parts"
 nH:NoAttr K C "heads"
 nU:NoAttr K C "unlikes"
 nF:NoAttr K C "fulls"
 nE:NoAttr K C "not_empty"
 mgC:mg "Knowledge"=eV (.ref C)
 mkC:Mk K C fI
structure MCal(K:Aa)(C:IS)(m:fS)(f:IS)(fd:JO)(ps:fJ):Prop where
 meth:Meth K C m f
 bind:Binds K fd ps []
abbrev eR(_:FnOk P w K mg base X k f d p s)C x:=MCal K C x f d p
structure KFs(fs:eZ (fS×V))(pl hd un fu:IS):Prop where
 parts:fs.lookup ("parts":fS)=eV (.ref pl)
 heads:fs.lookup ("heads":fS)=eV (.ref hd)
 unlikes:fs.lookup ("unlikes":fS)=eV (.ref un)
 fulls:fs.lookup ("fulls":fS)=eV (.ref fu)
 len:fs.length<100
 meth:∀m∈yu,fs.lookup m=eW
inductive KnAt_ob(C:IS)(H:Hp)(p:IS)(pl:IS)(hd:IS)(un:IS)(fu:IS):Prop
 |mk (dx fs)(h0:H p=eV (.ins C dx fs))(h1:KFs fs pl hd un fu):KnAt_ob C H p pl hd un fu
structure KnAt(C:IS)(H:Hp)(p pl hd un fu:IS)(hm:fH)(uk:eZ (eZ Key×V)):Prop where
 ob:KnAt_ob C H p pl hd un fu
 hds:H hd=eV (.dK (dS hm))
 uns:H un=eV (.dT uk)
theorem KnAt.same(h:KnAt C H p pl hd un a hm b)(e:Same H H'):KnAt C H' p pl hd un a hm b:=by
 let((d,fs,h1,h2),h3,c):=h;exact#[#[d,fs,e _ _ h1,h2],e _ _ h3,e _ _ c]
def put2(uk:eZ (eZ Key×V))(a b:fS):eZ (eZ Key×V):=putK (putK uk [Sum.inr a,Sum.inr b] (.bl eX)) [Sum.inr b,Sum.inr a] (.bl eX)
theorem KnAt.tell(h:KnAt C H p pl hd un c hm g)(e:Kp (· = un) H H')(d:H' un=eV (.dT a)):KnAt C H' p pl hd un c hm a:=by
 let((f,fs,h1,h2),h3,b):=h;let n1:p≠un:=jb h1 b (λz=>nomatch z);let n2:hd≠un:=jb h3 b (λz=>nomatch z);exact#[#[f,fs,e _ _ h1 n1,h2],e _ _ h3 n2,d]
inductive spHeadS(C:IS)(vs:eZ V)(H:Hp)(Q:VK):Prop
 |mk (p pl hd un fu:IS)(hm:fH)(uk:eZ (eZ Key×V))(x:fS)(h0:vs=[.ref p,.str x])(h1:KnAt C H p pl hd un fu hm uk)(h2:Q (.str (hdS hm x)) H):spHeadS C vs H Q
def ue(C:IS):Sp:=λvs H Q _=>spHeadS C vs H Q
inductive spAlikeS(C:IS)(vs:eZ V)(H:Hp)(Q:VK):Prop
 |mk (p pl hd un fu:IS)(hm:fH)(uk:eZ (eZ Key×V))(x y:fS)(h0:vs=[.ref p,.str x,.str y])(h1:KnAt C H p pl hd un fu hm uk)(h2:Q (.bl (decide (hdS hm x=hdS hm y))) H):spAlikeS C vs H Q
def lw(C:IS):Sp:=λvs H Q _=>spAlikeS C vs H Q
inductive spUnlikeS(C:IS)(vs:eZ V)(H:Hp)(Q:VK):Prop
 |mk (p pl hd un fu:IS)(hm:fH)(uk:eZ (eZ Key×V))(x y:fS)(h0:vs=[.ref p,.str x,.str y])(h1:KnAt C H p pl hd un fu hm uk)(h2:∀H',Same H H'->Q (.bl (valV uk [Sum.inr (hdS hm x),Sum.inr (hdS hm y)]).isSome) H'):spUnlikeS C vs H Q
def vq(C:IS):Sp:=λvs H Q _=>spUnlikeS C vs H Q
inductive spTellUS(C:IS)(vs:eZ V)(H:Hp)(Q:VK):Prop
 |mk (p pl hd un fu:IS)(hm:fH)(uk:eZ (eZ Key×V))(x y:fS)(h0:vs=[.ref p,.str x,.str y])(h1:KnAt C H p pl hd un fu hm uk)(h2:uk.length<=900)(h3:∀H',Kp (· = un) H H'->H' un=eV (.dT (put2 uk (hdS hm x) (hdS hm y)))->Q .non H'):spTellUS C vs H Q
def xr(C:IS):Sp:=λvs H Q _=>spTellUS C vs H Q
def zt(p:eZ Key×V):Prop:=∃a b:fS,p.1=[Sum.inr a,Sum.inr b]
def qk(p:eZ Key×V):gQ:=decide (p.1.getD 0 (Sum.inl 0)=p.1.getD 1 (Sum.inl 1))
inductive spClashS(C:IS)(vs:eZ V)(H:Hp)(Q:VK):Prop
 |mk (p pl hd un fu:IS)(hm:fH)(uk:eZ (eZ Key×V))(h0:vs=[.ref p])(h1:KnAt C H p pl hd un fu hm uk)(h2:(∀q∈uk,zt q))(h3:uk.length<=900)(h4:∀H',Same H H'->Q (.bl (uk.any qk)) H'):spClashS C vs H Q
def xo(C:IS):Sp:=λvs H Q _=>spClashS C vs H Q
theorem ae2(T:Txt K mg C m)(F:Fun K "head" "Knowledge.head" abm f fd):FnOk P w K mg base CX0 1 f fd ["self","word"] (ue C):=by
 refine F.okA ["self","word"] λb A outer s0 H vs Q E i h _=>?_;let(p,pl,hd,un,c,hm,d,x,rfl,j,q):=h;let a:=j4 i;let((l,fs,h1,h2),h3,n):=j;exists _,(ff (fx (pj a (gh (K:=K) rfl (qv 0)) (qv 1) (qv 1))));let g:=DGet.k (k:=Sum.inr x) h3;rw[qu] at g;exists _,fR,p,C,l,fs,.ref hd,fR,h1,T.cl,T.nH,h2.heads,hd,fR,.inl #[_,.inl h3],_,fR,_,fR,_,g;let e:(((lkS hm x).map V.str).getD (.str x))=.str (hdS hm x):=by
  unfold hdS;cases lkS hm x<;>rfl
 rw[e];exact q
theorem aa8(T:Txt K mg C o)(F:Fun K "alike" "Knowledge.alike" a7g f fd)(i:FnOk P w K mg base CX0 1 n m eS (ue C))(a:eR i C "head"):FnOk P w K mg base CX0 2 f fd ["self","one","other"] (lw C):=by
 refine F.okA ["self","one","other"] λl A outer s0 H vs Q E g h _=>?_;let(p,pl,hd,un,b,hm,c,x,y,rfl,d,q):=h;let(k,fs,h1,h2):=d.ob;let j:=h2.meth "head" (by decide);exists _,(ff (fx (j7 gk (gi (qv 0) T.cl a.meth i g a.bind .nil gt (fg (qv 1) fb)) (gi (qv 0) T.cl a.meth i g a.bind .nil gt (fg (qv 2) fb)) (fm _))));exists _,fR,p,k,fs,fR,h1,j,_,fR,p,pl,hd,un,b,hm,c,x,fR,d,_,fR,p,k,fs,fR,h1,j,_,fR,p,pl,hd,un,b,hm,c,y,fR,d,rfl;let e:decide (V.str (hdS hm x)=V.str (hdS hm y))=decide (hdS hm x=hdS hm y):=by simp
 rw[e];exact q
theorem fK:2<=IR:=by decide
theorem a89(T:Txt K mg C s)(F:Fun K "unlike" "Knowledge.unlike" a2j f fd)(j:FnOk P w K mg base CX0 1 r o eS (ue C))(b:eR j C "head"):FnOk P w K mg base CX0 2 f fd ["self","one","other"] (vq C):=by
 refine F.okA ["self","one","other"] λm A outer s0 H vs Q E e h _=>?_;let(p,pl,hd,un,c,hm,d,x,y,rfl,a,q):=h;let g:=j4 e;let(i,fs,h1,h2):=a.ob;let l:=h2.meth "head" (by decide);exists _,(ff (fx (a1p g (ij (i7 (gi (qv 0) T.cl b.meth j e b.bind .nil gt (fg (qv 1) fb)) (i7 (gi (qv 0) T.cl b.meth j e b.bind .nil gt (fg (qv 2) fb)) fb))) (gh (K:=K) rfl (qv 0)))));refine#[_,fR,p,i,fs,fR,h1,l,_,fR,p,pl,hd,un,c,hm,d,x,fR,a,_,fR,p,i,fs,fR,h1,l,_,fR,p,pl,hd,un,c,hm,d,y,fR,a,fK,λt n=>?_];let s1:=fe n (.tup [.str (hdS hm x),.str (hdS hm y)]);exists _,fR,p,C,i,fs,.ref un,fR,s1 _ _ h1,T.cl,T.nU,h2.unlikes,un,_,fR,DGet.t (k:=[Sum.inr (hdS hm x),Sum.inr (hdS hm y)]) (s1 _ _ a.uns) ad;exact q _ s1
theorem aac(T:Txt K mg C W)(F:Fun K "tell_unlike" "Knowledge.tell_unlike" a6v f fd)(B:FnOk P w K mg base CX0 1 U R eS (ue C))(d:eR B C "head"):FnOk P w K mg base CX0 2 f fd ["self","one","other"] (xr C):=by
 refine F.okA ["self","one","other"] λN A outer s0 H vs Q E r h _=>?_;let(p,pl,hd,un,m,hm,e,x,y,rfl,g,hl,q):=h;let u:=j4 r;let(I,fs,h1,h2):=g.ob;let L:=h2.meth "head" (by decide);exists _,fc (jg u (gh (K:=K) rfl (qv 0)) (ij (i7 (gi (qv 0) T.cl d.meth B r d.bind .nil gt (fg (qv 1) fb)) (i7 (gi (qv 0) T.cl d.meth B r d.bind .nil gt (fg (qv 2) fb)) fb))) md)
  (ff (jg u (gh (K:=K) rfl (qv 0)) (ij (i7 (gi (qv 0) T.cl d.meth B r d.bind .nil gt (fg (qv 2) fb)) (i7 (gi (qv 0) T.cl d.meth B r d.bind .nil gt (fg (qv 1) fb)) fb))) md))
 nofun
 let c:∀{n:fC},n<=1000->n<IR:=λh=>AI h (by decide);let X:p≠un:=jb h1 g.uns (λz=>nomatch z);refine#[_,fR,p,C,I,fs,.ref un,fR,h1,T.cl,T.nU,h2.unlikes,_,fR,p,I,fs,fR,h1,L,_,fR,p,pl,hd,un,m,hm,e,x,fR,g,_,fR,p,I,fs,fR,h1,L,_,fR,p,pl,hd,un,m,hm,e,y,fR,g,fK,λt J=>?_];let s1:=fe J (.tup [.str (hdS hm x),.str (hdS hm y)]);let S:t≠un:=AE (gc g.uns J);exists un,_,fR,DPut.t (k:=[Sum.inr (hdS hm x),Sum.inr (hdS hm y)]) (s1 _ _ g.uns) ad (c (by lia));let k1:Kp (· = un) H (upd (upd H t (.tup [.str (hdS hm x),.str (hdS hm y)])) un (.dT (putK e [Sum.inr (hdS hm x),Sum.inr (hdS hm y)] (.bl eX)))):=λb o D n=>by rw[fh n];exact s1 _ _ D
 let a:=g.tell k1 ad;let O:(putK e [Sum.inr (hdS hm x),Sum.inr (hdS hm y)] (V.bl eX)).length<=e.length+1:=jp _ _ _;generalize upd (upd H t (.tup [.str (hdS hm x),.str (hdS hm y)])) un (.dT (putK e [Sum.inr (hdS hm x),Sum.inr (hdS hm y)] (.bl eX)))=Z at k1 a |-;let(j,l,i,s):=a.ob;let v:=s.meth "head" (by decide);refine#[_,fR,p,C,j,l,.ref un,fR,i,T.cl,T.nU,s.unlikes,_,fR,p,j,l,fR,i,v,_,fR,p,pl,hd,un,m,hm,_,y,fR,a,_,fR,p,j,l,fR,i,v,_,fR,p,pl,hd,un,m,hm,_,x,fR,a,fK,λY G=>?_];let M:=fe G (.tup [.str (hdS hm y),.str (hdS hm x)]);exists un,_,fR,DPut.t (k:=[Sum.inr (hdS hm y),Sum.inr (hdS hm x)]) (M _ _ a.uns) ad (c (by lia));exact q _ (λb o D n=>by rw[fh n];exact M _ _ (k1 b o D n)) ad
theorem ixTK(h:X.K=K):IxR X (rIxT K):=by subst h;exact n9
theorem aak(X:Con K mg w)(T:Txt K mg C Z)(F:Fun K "clashing" "Knowledge.clashing" a6k f fd):FnOk P w K mg base CX0 1 f fd ["self"] (xo C):=by
 refine F.okA ["self"] λN A outer s0 H vs Q E hr h _=>?_;let(p,pl,hd,un,R,hm,c,rfl,t,B,hl,q):=h;let(Y,fs,h1,h2):=t.ob;exists _,ff (fx (gn (vj rfl) rfl X.any Ef (jq (ae0 (vo (a93 (gh (K:=K) rfl (qv 0))) (λ_ _ _ _=>m9) (λ_ _ _ _=>j7 gk (fi K (qv 0) dl) (fi K (qv 0) dl) (fm _)))) fb)))
 nofun
 refine#[_,fR,p,C,Y,fs,.ref un,fR,h1,T.cl,T.nU,h2.unlikes,un,c,fR,t.uns,λod bs nf g=>?_];let O:=A3 g;refine vg (bs.map V.ref) c qk adh ad (by rw[Ad];lia) (by rw[Ad];lia) (λi x r S d I W Q' U=>?_) λD L y J G=>?_
 . let(b,j,rfl):=lk S;let m:=Paired.at2 g d j;let(n,s,k):=B r (Ar d);let v:b≠un:=jb m t.uns (λz=>nomatch z);let l:SqT K I b [.str n,.str s]:=SqT.of (by
    let:=W b _ (by rw[fh v];exact m);rw[this,k];rfl)
   exists _,fR,b,_,0,.str n,fR,fR,l,fR,_,fR,b,_,1,.str s,fR,fR,l,fR,rfl;let:=U I (Same.refl _);let e:qk r=decide (V.str n=V.str s):=by
    unfold qk;rw[k];show decide ((Sum.inr n:Key)=Sum.inr s)=_;simp
   rw[e] at this;exact this
 let u:L un=eV (.frz od (.dT c)):=J _ _ ad;exists un,od,.dT c,u,nf,D,c.map qk,fR,SqL.of ?_;rw[fh (λz=>by rw[z] at y;rw[ad] at y;cases y)];exact G
 let M:Same H (upd L un (.dT c)):=λb o j=>by
  by_cases a:b=un;rw[a,ad];rw[a,t.uns] at j;exact j;rw[fh a];exact J _ _ (by rw[fh a];exact j)
 let:=q _ M;rw[Dj];exact this
end K37
namespace Kn
open L2
def place(p:fJ):fS:=p.getD 1 ""
def end2(p:fJ):fS:=if p.getD 0 ""="stretch" then p.getD 2 "" else "nil"
def FullR(R:fS->fS->Prop)(p:fJ):Prop:=p.getD 0 ""="cell" \/ R (place p) (end2 p)
theorem FullR.mono(h:∀a b,R a b->S a b)(f:FullR R p):FullR S p:=f.imp id (h _ _)
structure Clo(F P:fG)(R:fS->fS->Prop):Prop where
 fact:∀u v,[("not":fS),u,v]∈F->R u v
 symm:∀a b,R a b->R b a
 conn:∀a b c,Conn F a b->R b c->R a c
 nil:∀p∈P,FullR R p->R (place p) "nil"
 two:∀(i j:fC) p q,P[i]?=eV p->P[j]?=eV q->i≠j->FullR R p->FullR R q->R (place p) (place q)
def Un(F P:fG)(a b:fS):Prop:=∀R,Clo F P R->R a b
theorem ke(F P:fG):Clo F P (Un F P) where
 fact:=λu v h R c=>c.fact u v h
 symm:=λa b h R c=>c.symm a b (h R c)
 conn:=λa b d h1 h2 R c=>c.conn a b d h1 (h2 R c)
 nil:=λp hp f R c=>c.nil p hp (f.mono λa b h=>h R c)
 two:=λi j p q h1 h2 hn g e R c=>c.two i j p q h1 h2 hn (g.mono λa b h=>h R c) (e.mono λa b h=>h R c)
theorem Un.conn2(h:Un F P b d)(h1:Conn F a b)(h2:Conn F c d):Un F P a c :=
 (ke F P).conn _ _ _ h1 ((ke F P).symm _ _ ((ke F P).conn _ _ _ h2 ((ke F P).symm _ _ h)))
def Told(h:fS->fS)(L:fH)(a b:fS):Prop:=∃q∈L,(h a=h q.1/\h b=h q.2)\/(h a=h q.2/\h b=h q.1)
theorem a2v(hF:∀r∈F,i5 r)(c:∀q∈L,Un F P q.1 q.2)(t:Told (fq F) L a b):Un F P a b:=by
 let(q,d,h):=t;rcases h with⟨h1,h2⟩|⟨h1,h2⟩
 . exact(c q d).conn2 ((j8 hF _ _).mp h1) ((j8 hF _ _).mp h2)
 exact((ke F P).symm _ _ (c q d)).conn2 ((j8 hF _ _).mp h1) ((j8 hF _ _).mp h2)
structure AllTold(F P:fG)(L:fH)(Fl:eZ fC):Prop where
 fact:∀u v,[("not":fS),u,v]∈F->(u,v)∈L
 full:∀(i:fC) p,P[i]?=eV p->FullR (Told (fq F) L) p->i∈Fl
 nil:∀i∈Fl,∀p,P[i]?=eV p->(place p,("nil":fS))∈L
 two:∀i∈Fl,∀j∈Fl,i≠j->∀p q,P[i]?=eV p->P[j]?=eV q->(place p,place q)∈L\/(place q,place p)∈L
theorem xy(hF:∀r∈F,i5 r)(A:AllTold F P L Fl)(u:Un F P a b):Told (fq F) L a b:=by
 refine u _ #[λu v h=>#[_,A.fact u v h,.inl #[fR,fR]],?_,?_,?_,?_];rintro a b ⟨q,d,h⟩;exact#[q,d,h.elim (λz=>.inr #[z.2,z.1]) (λz=>.inl #[z.2,z.1])];rintro a b c k ⟨q,d,h⟩;let e:=(j8 hF a b).mpr k;exact#[q,d,by rw[e];exact h];intro p hp l;let(i,hi):=CD hp;exact#[_,A.nil i (A.full i p hi l) p hi,.inl #[fR,fR]]
 intro i j p q h1 h2 hn g f;rcases A.two i (A.full i p h1 g) j (A.full j q h2 f) hn p q h1 h2 with z|z;exact#[_,z,.inl #[fR,fR]];exact#[_,z,.inr #[fR,fR]]
theorem a68(hF:∀r∈F,i5 r)(A:AllTold F P L Fl)(c:∀q∈L,Un F P q.1 q.2):Told (fq F) L a b↔Un F P a b:=#[a2v hF c,xy hF A]
structure Going(F P:fG)(L:fH)(Fl:eZ fC):Prop where
 fact:∀u v,[("not":fS),u,v]∈F->(u,v)∈L
 sound:∀q∈L,Un F P q.1 q.2
 nd:Fl.Nodup
 isf:∀i∈Fl,∃p,P[i]?=eV p/\FullR (Un F P) p
 nil:∀i∈Fl,∀p,P[i]?=eV p->(place p,("nil":fS))∈L
 two:∀i∈Fl,∀j∈Fl,i≠j->∀p q,P[i]?=eV p->P[j]?=eV q->(place p,place q)∈L\/(place q,place p)∈L
def uz(P:fG)(Fl:eZ fC)(p:fJ):fH:=(place p,("nil":fS))::Fl.map λj=>(place p,place (P.getD j []))
theorem Going.step(G:Going F P L Fl)(hi:P[i]?=eV p)(l:FullR (Un F P) p)(hn:¬ i∈Fl):Going F P (L++uz P Fl p) (Fl++[i]):=by
 let pn:(place p,("nil":fS))∈L++uz P Fl p:=Ab.mpr (.inr (Af ..));let o:∀j∈Fl,∀q,P[j]?=eV q->(place p,place q)∈L++uz P Fl p:=λj d q c=>by
  refine Ab.mpr (.inr (Ag _ (As.mpr #[j,d,?_])));rw[A7,c];rfl
 exists λu v h=>Ab.mpr (.inl (G.fact u v h)),?_,?_,?_,?_
 . intro q c;rcases Ab.mp c with z|z;exact G.sound q z
   . rcases Ak.mp z with rfl|z;exact(ke F P).nil p (Ar hi) l
     . let(j,d,rfl):=As.mp z;let(q,c,m):=G.isf j d;let e:P.getD j []=q:=by rw[A7,c];rfl
       show Un F P (place p) (place (P.getD j []));rw[e];exact(ke F P).two i j p q hi c (λz=>hn (z ▸ d)) l m
 . refine AN.mpr #[G.nd,AK.mpr #[Aq,.nil],λa t b s e=>?_];rw[Ae.mp s] at e;exact hn (e ▸ t)
 . intro j d;rcases Ab.mp d with z|z;exact G.isf j z;rw[Ae.mp z];exact#[p,hi,l]
 . intro j d q c;rcases Ab.mp d with z|z;exact Ab.mpr (.inl (G.nil j z q c));rw[Ae.mp z,hi] at c;cases c;exact pn
 intro j d k n f q r c g;rcases Ab.mp d with z|z;rcases Ab.mp n with y|y;exact(G.two j z k y f q r c g).imp (λw=>Ab.mpr (.inl w)) (λw=>Ab.mpr (.inl w));rw[Ae.mp y,hi] at g;cases g;exact .inr (o j z q c)
 rw[Ae.mp z,hi] at c;cases c;rcases Ab.mp n with y|y;exact .inl (o k y r g);exact fF ((Ae.mp z).trans (Ae.mp y).symm) f
theorem Going.done(G:Going F P L Fl)(h:∀(i:fC) p,P[i]?=eV p->FullR (Told (fq F) L) p->i∈Fl):AllTold F P L Fl:=#[G.fact,h,G.nil,G.two]
theorem ut:∀{l m:eZ fC},l.Nodup->(∀x∈l,x∈m)->l.length<=m.length
 |[],_,_,_=>AF _
 |x::l,m,hn,hm=>by
  let d:=hm x (Af ..);let(h1,h2):=AK.mp hn;let:=ut (l:=l) (m:=m.erase x) h2 λy c=>(E1 (a:=y) (b:=x) (λe=>h1 (by rw[<- e];exact c))).mpr (hm y (Ag _ c));rw[DN d] at this;let hp:0<m.length:=CZ d;rw[Au]
  lia
theorem Going.len(G:Going F P L Fl):Fl.length<=P.length:=by
 let:=ut (m:=Bb P.length) G.nd λi hi=>by
  let(p,hp,_):=G.isf i hi;exact Br.mpr (Ao.mp hp).1
 rw[B6] at this;exact this
end Kn
namespace L2
open PyProof.Rows
def Itk(a:IS)(od:Obj)(kvs:eZ (Key×V)):It where
 go:=λi H=>H a=eV (.frz od (.dK kvs))/\i<kvs.length
 yld:=λi H x H'=>H'=H/\(kvs.map λkv=>kV kv.1)[i]?=eV x
 stop:=λi H=>H a=eV (.frz od (.dK kvs))/\kvs.length<=i
def ach(od:Obj)(kvs:eZ (Key×V))(es:fY DictEntry)(ep:fC):Prop:=od.ExactDict/\od.data=.dict es ep/\IZ (λ(p:Key×V) (e:DictEntry)=>RelV (kV p.1) e.key) kvs es.toList
theorem a7k{P:JH}{w:JL}{od:Obj}{es:fY DictEntry}{ep:fC}:∀{kvs:eZ (Key×V)}{vs:eZ (Key×IT)}{l:eZ DictEntry},KV kvs vs->PySem.Pairs (i4 P w) l vs->IZ (λ(p:Key×V) (e:DictEntry)=>RelV (kV p.1) e.key) kvs l
 |_,_,_,.nil,.nil=>.nil
 |_,_,_,.cons h t,.cons h1 h2 t2=>.cons (by rw[h.1];exact a2q h1) (a7k (od:=od) (es:=es) (ep:=ep) t t2)
theorem Paired.nthK:∀{c:eZ α}{l₂:eZ β}{i:fC}{a:α}{b:β},IZ F c l₂->c[i]?=eV a->l₂[i]?=eV b->F a b
 |_,_,0,_,_,.cons h t,h1,h2=>by cases h1;cases h2;exact h
 |_,_,i+1,_,_,.cons h t,h1,h2=>Paired.nthK (i:=i) t (by simpa using h1) (by simpa using h2)
theorem ad9{K:Aa}(hd:ach od kvs es ep):
 Turn P w K tg (Itk a od kvs) [J] J (λi h=>h.IsKeyIter J a i es.size ep) where
 mem:=by simp
 obj:=λi h st b hb=>by
  let e:b=J:=by simpa using hb
  subst e;let(o,h1,h2,h3):=st;exact#[o,h1,λv z=>by rw[h3] at z;cases z]
 keep:=λi h h' st k=>by
  let(o,h1,h2):=st;exact#[o,k J (by simp) o h1,h2]
 item:=by
  intro X hP hw hK hc i pins s σ H E I hf st hg;subst hP hw hK;let(f0,f1,f2,f3,f4,f5):=hf J (by simp);let(g1,g2):=I.hok a _ hg.1;let hsz:es.size=kvs.length:=by
   let:=hd.2.2.length;rw[AC] at this;exact this.symm
  refine se st g1 hd.2.1 (I.ok.hd hc) (λhn h' st' sb=>?_) (λhn=>fF hg.2 (by lia));let I1:Inv X pins σ H {s with heap:=h',toks:=s.toks}:=I.turned (λb o hb e=>(sb.2 b hb).trans e) f0 f1 f3 f4 f5;let hk:RelV (kV (kvs[i]'hg.2).1) es[i].key:=Paired.nthK (F:=λ(p:Key×V) (e:DictEntry)=>RelV (kV p.1) e.key) hd.2.2 (i:=i) (a:=kvs[i]'hg.2) (b:=es[i]) (Ah hg.2) (by rw[B3];exact Fi hn);refine#[_,fR,letGo_keyiter st' #[kV (kvs[i]'hg.2).1,H,I1,hk,#[fR,by rw[Ap,Ah hg.2];rfl],st',λb hb=>(hf b hb).1]]
 done:=by
  intro X hP hw hK hc i pins s σ H E I hf st hg;subst hP hw hK;let(f0,f1,f2,f3,f4,f5):=hf J (by simp);let(g1,g2):=I.hok a _ hg.1;let hsz:es.size=kvs.length:=by
   let:=hd.2.2.length;rw[AC] at this;exact this.symm
  exact se st g1 hd.2.1 (I.ok.hd hc) (λhn=>fF hg.2 (by lia)) (λ_ h' eb=>#[fR,I.turned (t':=s.toks) (λb o hb e=>eb b o hb e) f0 f1 f3 f4 f5])
 self:=λ_ _ _ _ _ st h=>Gq st h
def a6o(X:Cx)(tl:TE):TI:=fun σ H R=>tl σ H λx H1=>∃a kvs,x=.ref a/\H1 a=eV (.dK kvs)/\∀od,NF X a->R (Itk a od kvs) (upd H1 a (.frz od (.dK kvs)))
theorem aaz{X:Cx}{m l:Expr}{k:TE}(hl:PE X l k):PI X m l (a6o X k):=by
 intro c s σ H R I h;refine thn (hl c s σ H _ I h) λv s1 r=>?_;let(x,i,g,r1,a,kvs,ex,e,q):=r;subst ex;cases r1;let(z,hd,vs,rel,od,es,ep,h1,f,h2,h3,j,n):=(show ObjOk X.prog X.w i s1.heap a (.dK kvs) from g.hok a _ e)
 let d:Inv X c σ (upd i a (.frz od (.dK kvs))) s1:=g.write (x:=a) (e:=a) (h':=s1.heap) (t':=s1.toks) (by rw[e];exact True.intro) (.inl rfl) (λ_ _ _ z=>z) #[od,h1] #[h1,z,hd,vs,rel,od,es,ep,h1,f,h2,h3,j,n];let ent:ach od kvs es ep:=#[f,h2,a7k (od:=od) (es:=es) (ep:=ep) rel j]
 refine a1a hd h1 f h2 ?_;refine#[s1.heap.objs.size,[s1.heap.objs.size],_,_,upd i a (.frz od (.dK kvs)),fR,d.kept (t':=s1.toks) λb o e=>Ai _ e,ad9 ent,#[_,Ay _ rfl,fR,fR],λb p=>?_,q od (g.nf e λ_ _ z=>nomatch z)];let e:b=s1.heap.objs.size:=by simpa using p
 subst e;exact d.fpOk (An _) (d.hok.fresh (An _))
theorem abd(hl:QE X l a):QI X b l (a6o X a):=#[aaz hl.run]
def af2(X:Cx)(t:TS):TS:=λD σ H=>t {D with nx:=fun σ' H'=>∃a o u,H' a=eV (.frz o u)/\NF X a/\D.nx σ' (upd H' a u)} σ H
theorem adx{st:JA}(h:QS X st t):QS X st (af2 X t):=#[λb s σ H D I q=>thn (h.run b s σ H _ I q) λf s1 p=>by
 cases f with
 |next=>let(d,H',g,a,o,u,e,nf,c):=p;exact#[d,_,g.thaw e nf,c]
 |brk=>exact p
 |cont=>exact p
 |ret u=>exact p]
theorem a65{g:TG}{h:TS}{D:Ends}(Pv:fC->St->Hp->Prop)(k:Pv 0 σ H)(hl:∀i σ H,i<=kvs.length->Pv i σ H->H a=eV (.frz od (.dK kvs)))(l:∀i x σ H,(kvs.map λkv=>kV kv.1)[i]?=eV x->Pv i σ H->let N:=Pv (i+1);g x σ H λd f=>h {D with nx:=N,ct:=N,bk:=D.nx} d f)(hd:∀σ H,Pv kvs.length σ H->D.nx σ H):
 ∃W:fC->fC->St->Hp->Prop,(∃m,W 0 m σ H)/\∀i m σ H,W i m σ H->
  ((Itk a od kvs).stop i H/\D.nx σ H)\/((Itk a od kvs).go i H/\∃N:St->Hp->Prop,(∀c H',N c H'->∃j,j<m/\W (i+1) j c H')/\∀x H',(Itk a od kvs).yld i H x H'->g x σ H' λd f=>h {D with nx:=N,ct:=N,bk:=D.nx} d f):=by
 exists λi m σ H=>m=kvs.length-i/\i<=kvs.length/\Pv i σ H,#[kvs.length,by simp,AF _,k];rintro i m σ H ⟨rfl,hi,p⟩;let q:=hl i σ H hi p;by_cases b:i<kvs.length;refine .inr #[#[q,b],Pv (i+1),λc H' n=>#[kvs.length-(i+1),by lia,fR,b,n],λx H' y=>?_];let(e,y):=y;subst e;exact l i x σ _ y p
 let e:i=kvs.length:=by lia
 subst e;exact .inl #[#[q,An _],hd σ H p]
open PySem.SeqAt
open AutoSeq1 (wpAny_loadPart')
open MeetsSeq MeetsSeq2 MeetsSeq3
section
def a44(_ j:fB):Prop:=0<j/\j<=10 ^ 60
theorem a1o:OpR X (JQ .FloorDiv) (rI a44 λi j=>.int (i / j)):=opI λi j _ _ _ _ _ a q=>by
 let h1:(0:fB)<j:=a.1;let h2:j<=10 ^ 60:=a.2;refine floordiv_int (by lia) (by rw[ER i (by lia)];exact q) (.inl (PyProof.noPylong_of_log2 ?_));let h3:j.natAbs<2 ^ 200:=by
  let:(10:fB) ^ 60<2 ^ 200:=by decide
  lia
 let b:j.natAbs.log2<200:=(Nat.log2_lt (by lia)).mpr h3
 lia
set_option relaxedAutoImplicit true
theorem a9e(a:QE X o td)(b:QE X e ty)(m:autoParam (M1 X o "pop" apos e cpos) a9_):QE X (.Call (.Attribute o "pop" apos) [e] [] cpos) (a8b td ty):=#[a9p a.run b.run m]
end
end L2
namespace K37
open L2 Mir Kn
abbrev um:JA:=top 19
def PartRow(r:fJ):Prop:=(∃a f s,r=[("cell":fS),a,f,s])\/(∃a b,r=[("stretch":fS),a,b])\/∃a,r=[("tree":fS),a]
structure UkT(uk:eZ (eZ Key×V))(h:fS->fS)(L:fH):Prop where
 pr:∀q∈uk,zt q
 len:uk.length<=2*L.length
 iff:∀a b,(valV uk [Sum.inr a,Sum.inr b]).isSome=eX↔∃q∈L,(a=h q.1/\b=h q.2)\/(a=h q.2/\b=h q.1)
theorem UkT.told(U:UkT c h L)(a b:fS):(valV c [Sum.inr (h a),Sum.inr (h b)]).isSome=eX↔Told h L a b:=U.iff (h a) (h b)
theorem a7z(h:∀q∈d,zt q):∀q∈putK d [Sum.inr a,Sum.inr b] v,zt q:=λq c=>by
 unfold putK at c;split at c;let(p,hp,rfl):=As.mp c;split;exact#[a,b,by assumption];exact h p hp
 rcases Ab.mp c with z|z;exact h q z;rw[Ae.mp z];exact#[a,b,fR]
theorem UkT.step(U:UkT g h L)(u v:fS):UkT (put2 g (h u) (h v)) h (L++[(u,v)]):=by
 refine#[a7z (a7z U.pr),?_,λa b=>?_]
 . let h1:=jp g [Sum.inr (h u),Sum.inr (h v)] (V.bl eX);let h2:=jp (putK g [Sum.inr (h u),Sum.inr (h v)] (V.bl eX)) [Sum.inr (h v),Sum.inr (h u)] (V.bl eX);let:=U.len;unfold put2;rw[Aj,Av]
   lia
 unfold put2;rw[jx,jx];let e:∀x y z i:fS,([Sum.inr x,Sum.inr y]:eZ Key)=[Sum.inr z,Sum.inr i]↔x=z/\y=i:=λx y z i=>by simp
 constructor;intro f;by_cases c:([Sum.inr a,Sum.inr b]:eZ Key)=[Sum.inr (h v),Sum.inr (h u)];let:=(e _ _ _ _).mp c;exact#[(u,v),Ab.mpr (.inr (Ae.mpr rfl)),.inr this];rw[fD c] at f;by_cases d:([Sum.inr a,Sum.inr b]:eZ Key)=[Sum.inr (h u),Sum.inr (h v)];let:=(e _ _ _ _).mp d;exact#[(u,v),Ab.mpr (.inr (Ae.mpr rfl)),.inl this];rw[fD d] at f;let(q,h1,h2):=(U.iff a b).mp f;exact#[q,Ab.mpr (.inl h1),h2]
 rintro⟨q,h1,h2⟩;by_cases c:([Sum.inr a,Sum.inr b]:eZ Key)=[Sum.inr (h v),Sum.inr (h u)];rw[fE c];rfl
 rw[fD c];by_cases d:([Sum.inr a,Sum.inr b]:eZ Key)=[Sum.inr (h u),Sum.inr (h v)];rw[fE d];rfl
 rw[fD d];rcases Ab.mp h1 with z|z;exact(U.iff a b).mpr #[q,z,h2]
 let j:=Ae.mp z;subst j;rcases h2 with h2|h2;exact fF ((e _ _ _ _).mpr h2) d;exact fF ((e _ _ _ _).mpr h2) c
def fk(Fl:eZ fC):eZ (Key×V):=Fl.map λ(n:fC)=>((Sum.inl ((n:fC):fB):Key),V.bl eX)
inductive KnS_at_(C:IS)(H:Hp)(p:IS)(pl:IS)(hd:IS)(un:IS)(fu:IS)(F:fG)(L:fH):Prop
 |mk (hm uk)(h0:KnAt C H p pl hd un fu hm uk)(h1:HeadsOk hm (fq F))(h2:UkT uk (fq F) L):KnS_at_ C H p pl hd un fu F L
structure KnS(K:Aa)(C:IS)(H:Hp)(p pl hd un fu:IS)(F P:fG)(L:fH):Prop where
 at_:KnS_at_ C H p pl hd un fu F L
 parts:RowsAt K H pl P
 ne:hd≠fu
theorem KnS.same(h:KnS K C H p pl hd un c F P L)(e:Same H H'):KnS K C H' p pl hd un c F P L:=by
 let((hm,d,h1,h2,b),h3,a):=h;exact#[#[hm,d,h1.same e,h2,b],h3.same e,a]
inductive spEndsS(K:Aa)(vs:eZ V)(H:Hp)(Q:VK):Prop
 |mk (b:IS)(r:fJ)(h0:vs=[.ref b])(h1:RowAt K H b r)(h2:PartRow r)(h3:∀t H',Same H H'->SqT K H' t [.str (place r),.str (end2 r)]->Q (.ref t) H'):spEndsS K vs H Q
def ww(K:Aa):Sp:=λvs H Q _=>spEndsS K vs H Q
inductive spPartS(K:Aa)(C:IS)(R:fJ->(fS->fS)->fH->Prop)(vs:eZ V)(H:Hp)(Q:VK):Prop
 |mk (p pl hd un fu:IS)(F P:fG)(L:fH)(n:fC)(r:fJ)(h0:vs=[.ref p,.int (n:fB)])(h1:KnS K C H p pl hd un fu F P L)(h2:P[n]?=eV r)(h3:PartRow r)(h4:∀(b:gQ) H',Same H H'->(b=eX↔R r (fq F) L)->Q (.bl b) H'):spPartS K C R vs H Q
def uf(K:Aa)(C:IS)(R:fJ->(fS->fS)->fH->Prop):Sp:=λvs H Q _=>spPartS K C R vs H Q
def ks(r:fJ)(h:fS->fS)(_:fH):Prop:=r.getD 0 ""≠"cell" /\ h (place r)=h (end2 r)
def a4p(r:fJ)(h:fS->fS)(L:fH):Prop:=FullR (Told h L) r
theorem ma(h:RowsAt K H pl P){n:fC}(hn:P[n]?=eV r):∃(as:eZ IS) (b:IS),H pl=eV (.lst (as.map V.ref))/\atI (as.map V.ref) (n:fB)=eV (.ref b)/\RowAt K H b r:=by
 let(as,h1,h2):=h;let hl:=A3 h2;let a:n<as.length:=by rw[hl];exact(Ao.mp hn).1
 exact#[as,as[n],h1,jo (by rw[Ap,Ah a];rfl),Paired.at2 h2 (Ah a) hn]
theorem PartRow.at0(h:PartRow r):atI (r.map V.str) (0:fB)=eV (.str (r.getD 0 "")):=by
 rcases h with⟨a,f,s,rfl⟩|⟨a,b,rfl⟩|⟨a,rfl⟩<;>rfl
theorem PartRow.at1(h:PartRow r):atI (r.map V.str) (1:fB)=eV (.str (place r)):=by
 rcases h with⟨a,f,s,rfl⟩|⟨a,b,rfl⟩|⟨a,rfl⟩<;>rfl
theorem scEnds:FnScope ["part"] ["part"] (i8 um):=#[fR,fR,fR,by decide,fR,by decide,by decide]
theorem adb(F:Fun K "ends_of" "ends_of" um f fd):FnOk P w K mg base CX0 1 f fd ["part"] (ww K):=by
 refine F.okA ["part"] λj A outer s0 H vs Q E k h _=>?_;let(b,r,rfl,d,hp,q):=h;exists _,(ff (fx (nq (fo gk (fi K (qv 0) dl) gj (fm _)) (ij (ft (fi K (qv 0) dl) (ft (fi K (qv 0) dl) fb))) (ij (ft (fi K (qv 0) dl) (gw fb))))));refine#[_,fR,b,_,0,_,fR,fR,d,hp.at0,fR,_,fR,iteB (λc=>?_) (λc=>?_)]
 . let g:r.getD 0 ""="stretch" := by simpa using c
   obtain⟨x,y,rfl⟩:∃x y,r=[("stretch":fS),x,y]:=by
    rcases hp with⟨a,f,s,rfl⟩|z|⟨a,rfl⟩
    . exact fF g (by show ¬ ("cell":fS)="stretch";decide)
    . exact z
    exact fF g (by show ¬ ("tree":fS)="stretch";decide)
   refine#[_,fR,b,_,1,.str x,fR,fR,d,fR,_,fR,b,_,2,.str y,fR,fR,d,fR,fK,λt i=>?_];exact q t _ (fe i _) (SqT.of ad)
 let g:¬ r.getD 0 ""="stretch" := by simpa using c
 refine#[_,fR,b,_,1,_,fR,fR,d,hp.at1,fK,λt i=>?_];let e:end2 r="nil" := by unfold end2;rw[fD g]
 refine q t _ (fe i _) ?_;rw[e];exact SqT.of ad
theorem aae(T:Txt K mg C Z)(F:Fun K "is_empty" "Knowledge.is_empty" a0q f fd)(O:FnOk P w K mg base CX0 1 X M eS (ww K))(l:eQ O "ends_of")(I:FnOk P w K mg base CX0 2 R W eT (lw C))(y:eR I C "alike"):FnOk P w K mg base CX0 3 f fd ["self","number"] (uf K C ks):=by
 refine F.okA ["self","number","ends"] λJ A outer s0 H vs Q E x h nd=>?_;let(p,pl,hd,un,u,Fs,Ps,L,n,r,rfl,U,hn,hp,q):=h;let o:=x.mono (j:=1) (by lia);exists _,fc (fz 2 nd (gm O o l (ft (gr K (gh (K:=K) rfl (qv 0)) (qv 1)) fb)))
  (ff (fx (r6 (j7 kc (fi K (gr K (gh (K:=K) rfl (qv 0)) (qv 1)) dl) gj (fm _)) (ni (gi (qv 0) T.cl y.meth I x y.bind .nil gt (ft (fi K (qv 2) dl) (ft (fi K (qv 2) dl) fb)))))))
 nofun
 let((hm,N,D,hok,Y),a,S):=id U;let(s,fs,h1,h2):=D.ob;let(as,b,g,e,B):=ma a hn;refine#[_,fR,p,C,s,fs,.ref pl,fR,h1,T.cl,T.nP,h2.parts,_,fR,pl,_,_,.ref b,fR,fR,SqL.of g,e,b,r,fR,B,hp,λt G d v=>?_];let m:=D.same d;refine#[_,fR,p,C,s,fs,.ref pl,fR,d _ _ h1,T.cl,T.nP,h2.parts,_,fR,pl,_,_,.ref b,fR,fR,SqL.of (d _ _ g),e,b,_,0,_,fR,fR,B.same d,hp.at0,fR,_,fR,iteB (λc=>?_) (λc=>?_)]
 . let k:¬ r.getD 0 ""="cell" := by simpa using c
   exists _,fR,p,s,fs,fR,d _ _ h1,h2.meth "alike" (by decide),_,fR,t,_,0,.str (place r),fR,fR,v,fR,_,fR,t,_,1,.str (end2 r),fR,fR,v,fR,p,pl,hd,un,u,hm,N,_,_,fR,m;refine q _ G d ?_;rw[hok.hd,hok.hd,fZ];exact#[λz=>#[k,z],λz=>z.2]
 let k:r.getD 0 ""="cell" := by simpa using c
 exact q eY G d #[λz=>Bool.noConfusion z,λz=>fF k z.1]
theorem ad1(T:Txt K mg C fI)(F:Fun K "must_be_full" "Knowledge.must_be_full" yi f fd)(R:FnOk P w K mg base CX0 1 gE N eS (ww K))(l:eQ R "ends_of")(G:FnOk P w K mg base CX0 2 S Y eT (vq C))(y:eR G C "unlike"):FnOk P w K mg base CX0 3 f fd ["self","number"] (uf K C a4p):=by
 refine F.okA ["self","number","ends"] λI A outer s0 H vs Q E x h nd=>?_;let(p,pl,hd,un,u,Fs,Ps,L,n,r,rfl,W,hn,hp,q):=h;let o:=x.mono (j:=1) (by lia);exists _,fc (fz 2 nd (gm R o l (ft (gr K (gh (K:=K) rfl (qv 0)) (qv 1)) fb)))
  (ff (fx (a4c (j7 gk (fi K (gr K (gh (K:=K) rfl (qv 0)) (qv 1)) dl) gj (fm _)) (ni (gi (qv 0) T.cl y.meth G x y.bind .nil gt (ft (fi K (qv 2) dl) (ft (fi K (qv 2) dl) fb)))))))
 nofun
 let((hm,O,D,hok,J),a,U):=id W;let(s,fs,h1,h2):=D.ob;let(as,b,g,e,B):=ma a hn;refine#[_,fR,p,C,s,fs,.ref pl,fR,h1,T.cl,T.nP,h2.parts,_,fR,pl,_,_,.ref b,fR,fR,SqL.of g,e,b,r,fR,B,hp,λt Z d v=>?_];let m:=D.same d;refine#[_,fR,p,C,s,fs,.ref pl,fR,d _ _ h1,T.cl,T.nP,h2.parts,_,fR,pl,_,_,.ref b,fR,fR,SqL.of (d _ _ g),e,b,_,0,_,fR,fR,B.same d,hp.at0,fR,_,fR,iteB (λc=>?_) (λc=>?_)]
 . let k:r.getD 0 ""="cell" := by simpa using c
   exact q eX Z d #[λ_=>.inl k,λ_=>rfl]
 let k:¬ r.getD 0 ""="cell" := by simpa using c
 refine#[_,fR,p,s,fs,fR,d _ _ h1,h2.meth "unlike" (by decide),_,fR,t,_,0,.str (place r),fR,fR,v,fR,_,fR,t,_,1,.str (end2 r),fR,fR,v,fR,p,pl,hd,un,u,hm,O,_,_,fR,m,λM X=>?_];refine q _ M (d.trans X) ?_;rw[hok.hd,hok.hd,J.told];exact#[λz=>.inr z,λz=>z.resolve_left k]
def NoRow(o:HO):Prop:=(∃kv,o=.dK kv)\/(∃kv,o=.dT kv)\/(∃od kv,o=.frz od (.dK kv))\/∃C dx fs,o=.ins C dx fs
theorem NoRow.tup{o:HO}(h:NoRow o){xs:eZ V}:o≠.tup xs/\(∀ob,o≠.frz ob (.tup xs))/\o≠.lst xs:=by
 rcases h with⟨kv,rfl⟩|⟨kv,rfl⟩|⟨od,kv,rfl⟩|⟨C,a,fs,rfl⟩
 . exact#[(λz=>nomatch z),(λ_ z=>nomatch z),(λz=>nomatch z)]
 . exact#[(λz=>nomatch z),(λ_ z=>nomatch z),(λz=>nomatch z)]
 . exact#[(λz=>nomatch z),(λ_ z=>nomatch z),(λz=>nomatch z)]
 exact#[(λz=>nomatch z),(λ_ z=>nomatch z),(λz=>nomatch z)]
theorem tq(h:RowsAt K H pl P)(k:Kp S H H')(a:∀b,S b->∃o,H b=eV o/\NoRow o):RowsAt K H' pl P:=by
 let(as,h1,h2):=h;refine#[as,k _ _ h1 λz=>?_,Paired.mapP h2 λb r c=>?_];let(o,e,n):=a _ z;rw[h1] at e;exact(n.tup (xs:=as.map V.ref)).2.2 (Am e).symm
 rcases c with (z|⟨ob,z⟩)|z
 . refine .inl (.inl (k _ _ z λy=>?_));let(o,e,n):=a _ y;rw[z] at e;exact(n.tup (xs:=r.map V.str)).1 (Am e).symm
 . refine .inl (.inr #[ob,k _ _ z λy=>?_]);let(o,e,n):=a _ y;rw[z] at e;exact(n.tup (xs:=r.map V.str)).2.1 ob (Am e).symm
 exact .inr z
theorem KnS.tell(d:KnAt C H p pl hd un f hm c)(hok:HeadsOk hm (fq F))(h:UkT c (fq F) L)(hp:RowsAt K H pl P)(a:hd≠f)(k:Kp (· = un) H H')(e:H' un=eV (.dT (put2 c (hdS hm u) (hdS hm v)))):KnS K C H' p pl hd un f F P (L++[(u,v)]):=by
 refine#[#[hm,_,d.tell k e,hok,?_],tq hp k λb g=>#[.dT c,by rw[show b=un from g];exact d.uns,.inr (.inl #[_,fR])],a];rw[hok.hd,hok.hd];exact h.step u v
theorem KnS.fus(h:KnS K C H p pl hd un a F P L)(g:H a=eV o)(hn:(∃kv,o=.dK kv)\/∃od kv,o=.frz od (.dK kv))(l:HO):KnS K C (upd H a l) p pl hd un a F P L:=by
 let((hm,j,d,hok,i),k,c):=h;let(m,fs,h1,h2):=d.ob;let f:NoRow o:=hn.elim (λz=>.inl z) (λz=>.inr (.inr (.inl z)));let n1:p≠a:=λz=>by
  rw[z,g] at h1;rcases hn with⟨kv,rfl⟩|⟨od,kv,rfl⟩<;>cases h1
 let n2:un≠a:=λz=>by
  let:=d.uns;rw[z,g] at this;rcases hn with⟨kv,rfl⟩|⟨od,kv,rfl⟩<;>cases this
 refine#[#[hm,j,#[#[m,fs,by rw[fh n1];exact h1,h2],by rw[fh c];exact d.hds,by rw[fh n2];exact d.uns],hok,i],?_,c];exact tq (S:=(· = a)) k (λb o e hn=>by rw[fh hn];exact e) λb e=>#[o,by rw[show b=a from e];exact g,f]
theorem afg{Fl:eZ fC}(h:¬ n∈Fl):putK (fk Fl) (Sum.inl (n:fB)) (.bl eX)=fk (Fl++[n]):=by
 let hv:valV (fk Fl) (Sum.inl (n:fB):Key)=eW:=by
  cases e:valV (fk Fl) (Sum.inl (n:fB):Key) with
  |none=>rfl
  |some v =>
   let:=xu e;unfold fk at this;rw[Bu] at this;let(m,hm,a):=As.mp this;let c:(Sum.inl (m:fB):Key)=Sum.inl (n:fB):=a;let d:(m:fB)=n:=B5 c;let b:m=n:=by lia
   exact fF (b ▸ hm) h
 rw[lq _ hv];unfold fk;rw[Ax];rfl
inductive spTellFS(K:Aa)(C:IS)(vs:eZ V)(H:Hp)(Q:VK):Prop
 |mk (p pl hd un fu:IS)(F P:fG)(L:fH)(Fl:eZ fC)(n:fC)(r:fJ)(h0:vs=[.ref p,.int (n:fB)])(h1:KnS K C H p pl hd un fu F P L)(h2:H fu=eV (.dK (fk Fl)))(h3:P[n]?=eV r)(h4:(∀r∈P,PartRow r))(h5:(∀j∈Fl,j<P.length))(h6:(¬ n∈Fl))(h7:L.length+Fl.length+1<=400)(h8:∀H',Kp (λb=>b=un\/b=fu) H H'->KnS K C H' p pl hd un fu F P (L++uz P Fl r)->H' fu=eV (.dK (fk (Fl++[n])))->Q .non H'):spTellFS K C vs H Q
def a3e(K:Aa)(C:IS):Sp:=λvs H Q _=>spTellFS K C vs H Q
theorem a8p(T:Txt K mg C fI)(F:Fun K "tell_full" "Knowledge.tell_full" a5i f fd)(GU:FnOk P w K mg base CX0 2 gU dU eS (xr C))(cU:eR GU C "tell_unlike"):FnOk P w K mg base CX0 3 f fd ["self","number"] (a3e K C):=by
 refine F.okA ["self","number","place","other"] λaD A outer s0 H vs Q E hr h nd=>?_;let(p,pl,hd,un,c,Fs,N,L,Fl,n,r,rfl,hK,W,hn,g,al,Z,aC,q):=h;let am:=j4 hr;let hp:=g r (Ar hn);exists _,fc (fz 2 nd (fi K (gr K (gh (K:=K) rfl (qv 0)) (qv 1)) dl))
  (fc (ia (gi (qv 0) T.cl cU.meth GU hr cU.bind .nil gt (fg (qv 2) (gw fb))))
  (fc (adx (im A1 rfl (abd (gh (K:=K) rfl (qv 0))) (ip 3 nd) (ff (ia (gi (qv 0) T.cl cU.meth GU hr cU.bind .nil gt (fg (qv 2) (ft (fi K (gr K (gh (K:=K) rfl (qv 0)) (qv 3)) dl) fb)))))))
  (ff (jg am (gh (K:=K) rfl (qv 0)) (qv 1) md))))
 nofun
 let((hm,uk,hk,hok,hU),m,ah):=id hK;let(dx,fs,h1,h2):=hk.ob;let(as,b,av,az,hR):=ma m hn;exists _,fR,p,C,dx,fs,.ref pl,fR,h1,T.cl,T.nP,h2.parts,_,fR,pl,_,_,.ref b,fR,fR,SqL.of av,az,b,_,1,_,fR,fR,hR,hp.at1;let aE:=hU.len;refine#[_,fR,p,dx,fs,fR,h1,h2.meth "tell_unlike" (by decide),_,fR,p,pl,hd,un,c,hm,uk,place r,"nil",fR,hk,by lia,λH1 k1 e1=>?_];let G:=KnS.tell hk hok hU m ah k1 e1;let ae:c≠un:=jb W hk.uns (λz=>nomatch z);let u:=k1 _ _ W ae;let((aF,aJ,X,_,_),_,_):=id G;let(aq,ay,aa,O):=X.ob;refine#[_,fR,p,C,aq,ay,.ref c,fR,aa,T.cl,T.nF,O.fulls,c,_,fR,u,λod nf=>?_];let ai:=G.fus u (.inl #[_,fR]) (.frz od (.dK (fk Fl)));let B:(upd H1 c (.frz od (.dK (fk Fl)))) c=eV (.frz od (.dK (fk Fl))):=ad;let k2:Kp (λb=>b=un\/b=c) H (upd H1 c (.frz od (.dK (fk Fl)))):=λb o D a=>by
  rw[fh (λz=>a (.inr z))];exact k1 b o D (λz=>a (.inl z))
 generalize upd H1 c (.frz od (.dK (fk Fl)))=H2 at ai B k2 |-;clear G u X aa O k1 e1;refine a65 (λi σ v=>Kp (λb=>b=un\/b=c) H v/\KnS K C v p pl hd un c Fs N (L++((place r,("nil":fS))::(Fl.take i).map λj=>(place r,place (N.getD j []))))/\v c=eV (.frz od (.dK (fk Fl)))/\∃z3:fA V,σ=[rQ p,iQ (n:fB),eV (.str (place r)),z3])
  #[k2,ai,B,eW,fR] (λi σ v _ pv=>pv.2.2.1) ?_ ?_
 . rintro i x σ v hx ⟨k3,y,d,z3,rfl⟩
   nofun
   let J:i<Fl.length:=by
    let:=(Ao.mp hx).1;unfold fk at this;simpa using this
   obtain rfl:x=.int ((Fl[i]:fC):fB):=by
    unfold fk at hx;rw[Ap,Ap,Ah J] at hx;exact(Am hx).symm
   let aA:=al _ (AH J);obtain⟨s,hs⟩:∃s,N[Fl[i]]?=eV s:=#[N[Fl[i]],Ah aA]
   let ao:=g s (Ar hs);let((aw,ax,I,aj,ab),e,_):=id y;let(R,U,Y,af):=I.ob;let(aH,b3,ag,ac,aB):=ma e hs;let S:=ab.len;let aK:((Fl.take i).map λj=>(place r,place (N.getD j []))).length<=Fl.length:=by rw[Ad,AG];lia
   refine#[_,fR,p,R,U,fR,Y,af.meth "tell_unlike" (by decide),_,fR,_,fR,p,C,R,U,.ref pl,fR,Y,T.cl,T.nP,af.parts,_,fR,pl,_,_,.ref b3,fR,fR,SqL.of ag,ac,b3,_,1,_,fR,fR,aB,ao.at1,p,pl,hd,un,c,aw,ax,place r,place s,fR,I,?_,λH4 M e4=>?_]
   . rw[Aj,Au] at S
     lia
   let l:=KnS.tell I aj ab e ah M e4;refine#[λb' o D a=>M b' o (k3 b' o D a) (λz=>a (.inl z)),?_,M _ _ d ae,_,fR];let et:Fl.take (i+1)=Fl.take i++[Fl[i]]:=by rw[AL,Ah J];rfl
   let eg:N.getD Fl[i] []=s:=by rw[A7,hs];rfl
   rw[A4] at l;rw[et,Ax,List.map_singleton,eg];exact l
 rintro σ v ⟨k3,y,d,z3,rfl⟩;let e0:(fk Fl).length=Fl.length:=by unfold fk;rw[Ad]
 rw[e0,AW] at y;exists c,od,.dK (fk Fl),d,nf;let l:=y.fus d (.inr #[_,_,fR]) (.dK (fk Fl));let t:(upd v c (.dK (fk Fl))) c=eV (.dK (fk Fl)):=ad;let M:Kp (λb=>b=un\/b=c) H (upd v c (.dK (fk Fl))):=λb o D a=>by
  rw[fh (λz=>a (.inr z))];exact k3 b o D a
 generalize upd v c (.dK (fk Fl))=H4 at l t M |-;let((aG,aI,an,_,_),_,_):=id l;let(au,ak,ap,ar):=an.ob;exists _,fR,p,C,au,ak,.ref c,fR,ap,T.cl,T.nF,ar.fulls,_,fR,c,_,fR,DPut.k (k:=Sum.inl (n:fB)) t ?_;rw[e0];exact AI (show Fl.length<=1000 by lia) (by decide)
 rw[afg Z];refine q _ (λb o D a=>by rw[fh (λz=>a (.inr z))];exact M b o D a) (l.fus t (.inl #[_,fR]) _) ad
end K37
namespace L2
def natV(n:fC):V:=.int (n:fB)
theorem a16(n:fC):nums 0 n=(Bb n).map natV:=by
 unfold nums natV;refine Cm λi _=>?_;rw[Dk]
theorem qm(ns:eZ fC)(p:fC->gQ)(l:JSeq J u (ns.map natV))(k:u d)(hz:ns.length<=1000)(o:∀n∈ns,∀a,Same d a->∀b:gQ->Hp->Prop,(∀c,Same a c->b (p n) c)->r (eV (.int (n:fB))::jy σ h) a b)(m:∀(n:fC) a (b:VK),b (.int (n:fB)) a->t (eV (.int (n:fB))::jy σ h) a b)(s:∀D H',d D=eW->Same d H'->H' D=eV (.lst ((ns.filter p).map natV))->Q (.ref D) H'):oa J d σ h r t Q:=by
 let pv:∀n:fC,(λv:V=>match v with|.int i=>p i.toNat|_=>eY) (natV n)=p n:=λn=>by
  show p ((n:fB)).toNat=p n;rw[Bf]
 refine vr (ns.map natV) (λv=>match v with|.int i=>p i.toNat|_=>eY) id l k (by rw[Ad];exact AA hz (by decide)) ?_ ?_ ?_;intro x g a j b f;let(n,hn,rfl):=As.mp g;refine o n hn a j b λc w=>?_;let:=f c w;let e:(match natV n with|.int i=>p i.toNat|_=>eY)=p n:=pv n;rw[e] at this;exact this;intro x g _ a j b f;let(n,hn,rfl):=As.mp g;exact m n a b (f a (Same.refl _));intro D H' q e hd;refine s D H' q e ?_;rw[hd,IL,Ez];rw[show(IM ((λv:V=>match v with|.int i=>p i.toNat|_=>eY)∘natV) ns)=ns.filter p from DV λn _=>pv n]
end L2
namespace K37
open L2 Mir Kn
open Classical in
def sf(P:fG)(h:fS->fS)(L:fH)(n:fC):gQ:=decide (∃r,P[n]?=eV r/\FullR (Told h L) r)
open Classical in
theorem mustB_iff:sf P h L n=eX↔∃r,P[n]?=eV r/\FullR (Told h L) r:=by
 unfold sf;exact#[λz=>fV z,λz=>fU z]
theorem a9t(hn:P[n]?=eV r)(a:b=eX↔FullR (Told h L) r):sf P h L n=b:=by
 rw[Bm,mustB_iff,a];constructor;rintro⟨r',h1,h2⟩;rw[hn] at h1;cases h1;exact h2;exact λz=>#[r,hn,z]
theorem ro{n:fC}:(valV (fk Fl) (Sum.inl (n:fB):Key)).isSome=decide (n∈Fl):=by
 rw[<- ko];unfold fk;rw[Bm,AV,fZ];constructor
 . rintro⟨q,b,e⟩;let(m,hm,rfl):=As.mp b;let a:(Sum.inl (m:fB):Key)=Sum.inl (n:fB):=by simpa using e
   let:(m:fB)=n:=B5 a;let:m=n:=by lia
   exact this ▸ hm
 exact λh=>#[_,As.mpr #[n,h,fR],by simp]
inductive spFindS(K:Aa)(C:IS)(vs:eZ V)(H:Hp)(Q:VK):Prop
 |mk (p pl hd un fu:IS)(F P:fG)(L:fH)(h0:vs=[.ref p])(h1:KnS K C H p pl hd un fu F P L)(h2:H fu=eV (.dK (fk [])))(h3:(∀r∈F,i5 r))(h4:(∀r∈P,PartRow r))(h5:P.length<=15)(h6:L.length<=100)(h7:Going F P L [])(h8:∀L' Fl H',Kp (λb=>b=un\/b=fu) H H'->KnS K C H' p pl hd un fu F P L'->H' fu=eV (.dK (fk Fl))->AllTold F P L' Fl->Going F P L' Fl->L'.length<=400->Q .non H'):spFindS K C vs H Q
def a6z(K:Aa)(C:IS):Sp:=λvs H Q _=>spFindS K C vs H Q
theorem rm(Pv:fC->St->Hp->Prop)(g:Pv m0 σ H)(h:∀m σ H,Pv m σ H->let N:St->Hp->Prop:=λe H'=>∃d,d<m/\Pv d e H';c σ H λb a=>if b=eX then i {D with nx:=N,ct:=N,bk:=D.nx} σ a else D.nx σ a)(mono:∀σ H Q f,(∀b a,Q b a->f b a)->c σ H Q->c σ H f):tf c i D σ H:=by
 exists Pv,#[_,g];intro m σ H p;refine mono σ H _ _ (λb a q=>?_) (h m σ H p);cases b with|true=>exact#[_,λe H' #[d,l,j]=>#[d,l,j],q]|false=>exact q
theorem ad4(Cn:Con K mg w)(T:Txt K mg C fI)(F:Fun K "find_fulls" "Knowledge.find_fulls" a7c f fd)(GM:FnOk P w K mg base CX0 3 gM dM eS (uf K C a4p))(cM:eR GM C "must_be_full")(GT:FnOk P w K mg base CX0 3 gT dT eT (a3e K C))(cT:eR GT C "tell_full"):FnOk P w K mg base CX0 4 f fd ["self"] (a6z K C):=by
 refine F.okA ["self","found","number","waiting"] λa6 A outer s0 H vs Q E hr h nd=>?_;let(p,pl,hd,un,G,u,l,L0,rfl,hK,aC,a1,ao,a3,aJ,aR,q):=h;let aB:=j4 hr;exists _,fc (pp ["number","self"] [0] (i:=1) nd rfl (Or.inl rfl) (jk rfl Cn.range (i7 (gn i6 rfl Cn.len AJ (jq (gh (K:=K) rfl (qv 0)) fb)) fb)) (λ_ _ _ _=>(qr (j5 (gi (qv 1) T.cl cM.meth GM hr cM.bind .nil gt (fg (qv 0) fb))))) (λ_ _ _ _=>(qv 0)))
  (ff (mj A1 (vx (K:=K) (qv 1)) (fc (im A1 rfl (iq (qv 1)) (ip 2 nd) (ff (ia (gi (qv 0) T.cl cT.meth GT hr cT.bind .nil gt (fg (qv 2) fb)))))
  (fc (pp ["number","self"] [0] (i:=3) nd rfl (Or.inl rfl) (jk rfl Cn.range (i7 (gn i6 rfl Cn.len AJ (jq (gh (K:=K) rfl (qv 0)) fb)) fb)) (λ_ _ _ _=>(qr (ku aB (qv 0) (gh (K:=K) rfl (qv 1))))) (λ_ _ _ _=>(qv 0)))
  (ff (pp ["number","self"] [0] (i:=1) nd rfl (Or.inl rfl) (iq (qv 3)) (λ_ _ _ _=>(qr (j5 (gi (qv 1) T.cl cM.meth GM hr cM.bind .nil gt (fg (qv 0) fb))))) (λ_ _ _ _=>(qv 0))))))))
 nofun
 let ag:∀{M N:Hp} {L:fH} {n:fC} {X:gQ->Hp->Prop},KnS K C M p pl hd un G u l L->n<l.length->Same M N->(∀R,Same N R->X (sf l (fq u) L n) R)->uf K C a4p [.ref p,.int (n:fB)] N (λv R=>tBS v R X) E0:=λ{M N L n X} hk hn e I=>by
  let hs:l[n]?=eV l[n]:=Ah hn;refine#[p,pl,hd,un,G,u,l,L,n,_,fR,hk.same e,hs,ao _ (AH hn),λb R e4 hb=>#[b,fR,?_]];let:=I R e4;rw[a9t hs hb] at this;exact this
 let((hm,uk,hk,hok,hU),aj,be):=id hK;let(dx,fs,h1,h2):=hk.ob;let(as,aV,aO):=aj;let ar:=A3 aO;let ak:(as.map V.ref).length=l.length:=by rw[Ad];exact ar
 exists _,fR,p,C,dx,fs,.ref pl,fR,h1,T.cl,T.nP,h2.parts,pl,_,fR,.inl (SqL.of aV),_,fR,(by rw[ak];lia),(by rw[ak];lia);rw[ak,Bf];let JR:∀n,JSeq (Itr 0 n) (λ_=>True) ((Bb n).map natV):=λn=>by rw[<- a16];exact vd
 refine qm (Bb l.length) (sf l (fq u) L0) (JR _) trivial (by rw[B6];lia) (λn hn M e2 X I=>?_) (λn M X I=>#[_,fR,I]) λD H1 hD e1 aF=>?_;exact#[_,fR,p,dx,fs,fR,e2 _ _ h1,h2.meth "must_be_full" (by decide),_,fR,ag hK (Br.mp hn) e2 I]
 let au:∀i r,l[i]?=eV r->FullR (Told (fq u) L0) r->i∈([]:eZ fC)\/i∈(Bb l.length).filter (sf l (fq u) L0):=λi r hi hf=>.inr (Bc.mpr #[Br.mpr (Ao.mp hi).1,mustB_iff.mpr #[r,hi,hf]]);refine rm (λm σ M=>Ex6 λ(L:fH) (Fl d:eZ fC) (D:IS) (z2 z3:fA V)=>And11 (σ=[rQ p,rQ D,z2,z3]) (Kp (λb=>b=un\/b=G) H M) (KnS K C M p pl hd un G u l L) (M G=eV (.dK (fk Fl))) (Going u l L Fl) (L.length<=100+Fl.length*16) (M D=eV (.lst (d.map natV))) (d.Nodup) ((∀i∈d,(¬ i∈Fl)/\∃r,l[i]?=eV r/\FullR (Told (fq u) L) r)) ((∀i r,l[i]?=eV r->FullR (Told (fq u) L) r->i∈Fl\/i∈d)) (m=l.length-Fl.length))
  (m0:=l.length) #[L0,[],_,D,eW,eW,fR,λb o hb _=>e1 b o hb,hK.same e1,e1 _ _ aC,aR,by simpa using aJ,aF,Hm CL Ea,λi hi=>#[Aq,mustB_iff.mp (Bc.mp hi).2],au,fR] ?_ ?_
 . rintro m σ M ⟨L,Fl,d,D,z2,z3,rfl,k2,af,B,hG,aN,O,aP,aQ,aZ,rfl⟩
   nofun
   exists _,fR,_,.inl #[_,SqL.of O,fR];let bb:G≠un:=by
    let((_,_,al,_),_):=af;exact jb B al.uns (λz=>nomatch z)
   let bf:=hG.len;refine iteB (λc=>?_) (λc=>?_)
   . let aK:0<d.length:=by
      cases d with|nil=>cases c|cons _ _=>exact Hn _
     clear c;exists _,fR,D,fR,#[_,SqL.of O];let a2:D≠un:=by
      let((_,_,al,_),_):=af;exact jb O al.uns (λz=>nomatch z)
     let aD:D≠G:=jb O B (λz=>nomatch z);refine jj (xs:=d.map natV) (λj σ N=>Ex2 λ(L3:fH) (z2:fA V)=>And7 (σ=[rQ p,rQ D,z2,z3]) (Kp (λb=>b=un\/b=G) H N) (KnS K C N p pl hd un G u l L3) (N G=eV (.dK (fk (Fl++d.take j)))) (Going u l L3 (Fl++d.take j)) (L3.length<=100+(Fl++d.take j).length*16) (N D=eV (.lst (d.map natV))))
      #[L,z2,fR,k2,af,by rw[Cd,A2];exact B,by rw[Cd,A2];exact hG,by rw[Cd,A2];exact aN,O] (λj σ N _ pv=>by let(_,_,_,_,_,_,_,_,aH):=pv;exact SqL.of aH) ?_ ?_
     . rintro j x σ N hx ⟨L3,z2,rfl,k3,J,s,t,ah,aq⟩
       nofun
       let an:j<d.length:=by let:=(Ao.mp hx).1;rw[Ad] at this;exact this
       obtain rfl:x=.int ((d[j]:fC):fB):=by
        rw[Ap,Ah an] at hx;exact(Am hx).symm
       let(aM,r,hr,aU):=aQ _ (AH an);let aw:¬ d[j]∈Fl++d.take j:=λz=>by
        rcases Ab.mp z with y|y;exact aM y
        let(i,hi,e):=List.mem_take_iff_getElem.mp y;let:=(HE aP).mp e
        lia
       let aL:FullR (Un u l) r:=aU.mono λa b z=>a2v a1 hG.sound z;let S:=t.len;let a4:(Fl++d.take j).length*16<=15*16:=Du _ (by lia);let((aW,aY,am,_,_),_,_):=id J;let(W,Y,aa,ab):=am.ob;refine#[_,fR,p,W,Y,fR,aa,ab.meth "tell_full" (by decide),_,fR,p,pl,hd,un,G,u,l,L3,Fl++d.take j,d[j],r,fR,J,s,hr,ao,λi hi=>?_,aw,by lia,λR k4 Z az=>?_];let(r',h',_):=t.isf i hi;exact(Ao.mp h').1
       let et:Fl++d.take (j+1)=Fl++d.take j++[d[j]]:=by rw[AL,Ah an,A4];rfl
       refine#[_,_,fR,λb o hb ae=>k4 b o (k3 b o hb ae) ae,Z,by rw[et];exact az,by rw[et];exact t.step hr aL aw,?_,k4 _ _ aq (λz=>z.elim a2 aD)];let tl:(uz l (Fl++d.take j) r).length=(Fl++d.take j).length+1:=by unfold uz;rw[Au,Ad]
       rw[et,Aj,tl,Aj (bs:=[d[j]]),Av,Nat.add_mul]
       lia
     rintro σ N ⟨L3,z2,rfl,k3,J,s,t,ah,aq⟩;let el:(d.map natV).length=d.length:=Ad ..;rw[el,AW] at s t ah;let S:=t.len;rw[Aj] at S;let((aW,aY,am,a5,a9),ac,_):=id J;let(W,Y,aa,ab):=am.ob;let(aG,ay,av):=ac;let U:(aG.map V.ref).length=l.length:=by rw[Ad];exact A3 av
     exists _,fR,p,C,W,Y,.ref pl,fR,aa,T.cl,T.nP,ab.parts,pl,_,fR,.inl (SqL.of ay),_,fR,(by rw[U];lia),(by rw[U];lia);rw[U,Bf];refine qm (Bb l.length) (λn => !decide (n∈Fl++d)) (JR _) trivial (by rw[B6];lia) (λn hn R e4 X I=>?_) (λn R X I=>#[_,fR,I]) λD4 R bc e4 ap=>?_;let g:=DGet.k (k:=Sum.inl (n:fB)) (e4 _ _ s);let:=I R (Same.refl _);rw[<- ro] at this;exact#[_,fR,_,fR,p,C,W,Y,.ref G,fR,e4 _ _ aa,T.cl,T.nF,ab.fulls,G,_,fR,g,_,fR,this]
     let Z:=J.same e4;let((a8,bd,aE,_,_),_,_):=id Z;let(aT,aA,aI,aS):=aE.ob;exists _,fR,D4,fR,#[_,SqL.of ap];let a7:((Bb l.length).filter λn => !decide (n∈Fl++d)).length<=l.length:=by
      let:=B4 (λn => !decide (n∈Fl++d)) (Bb l.length);rw[B6] at this;exact this
     refine qm ((Bb l.length).filter λn => !decide (n∈Fl++d)) (sf l (fq u) L3) kj (SqL.of ap) (by lia) (λn hn H5 e5 X I=>?_) (λn H5 X I=>#[_,fR,I]) λD5 H5 ba e5 a0=>?_;exact#[_,fR,p,aT,aA,fR,e5 _ _ aI,aS.meth "must_be_full" (by decide),_,fR,ag Z (Br.mp (Bc.mp hn).1) e5 I]
     let ai:=e4.trans e5;refine#[l.length-(Fl++d).length,by rw[Aj];lia,L3,Fl++d,_,D5,_,_,fR,λb o hb ae=>ai b o (k3 b o hb ae),J.same ai,ai _ _ s,t,ah,a0,Hm (List.filter_sublist.trans CL) Ea,λi hi=>?_,λi r hi hf=>?_,fR];let(g1,g2):=Bc.mp hi;let(g3,g4):=Bc.mp g1;exact#[by simpa using g4,mustB_iff.mp g2]
     by_cases ax:i∈Fl++d;exact .inl ax;exact .inr (Bc.mpr #[Bc.mpr #[Br.mpr (Ao.mp hi).1,by simpa using ax],mustB_iff.mpr #[r,hi,hf]])
   let aX:d=[]:=by
    cases d with|nil=>rfl|cons _ _=>cases c
   subst aX;let A:=hG.done λi r hi hf=>(aZ i r hi hf).resolve_right Aq;exact q L Fl M k2 af B A hG (by let:Fl.length*16<=15*16:=Du _ (by lia);lia)
 rintro σ M Q1 Q2 hq ⟨v,h1,k,h2,h3⟩;exact#[v,h1,k,h2,hq _ _ h3]
end K37
namespace L2
open PyProof.Rows PySem.Builtin
theorem sr(h:∀c:Ends,(∀σ H,b D σ H->c.nx σ H)->(∀v H,D.rt v H->c.rt v H)->(∀σ H,D.ct σ H->c.ct σ H)->a c σ H):tSeq a b D σ H:=h {D with nx:=b D} (λ_ _ z=>z) (λ_ _ z=>z) (λ_ _ z=>z)
end L2
namespace K37
open L2 Mir Kn
def nots(F:fG):fH:=F.filterMap λ(r:fJ)=>if(r.getD 0 "":fS)=("not":fS) then eV ((r.getD 1 "",r.getD 2 ""):fS×fS) else eW
theorem a1k(F:fG):(nots F).length<=F.length:=List.length_filterMap_le _ _
theorem aaw(F:fG)(u v:fS):nots (F++[[("not":fS),u,v]])=nots F++[(u,v)]:=by
 unfold nots;rw[Dl];rfl
theorem acz(F:fG){k:fS}(h:¬ k="not"):nots (F++[[k,u,v]])=nots F:=by
 unfold nots;rw[Dl,BN];let e:(if([k,u,v].getD 0 "":fS)=("not":fS) then eV (([k,u,v].getD 1 "",[k,u,v].getD 2 ""):fS×fS) else eW)=eW:=fD h;rw[e];simp
theorem a1c(hF:∀r∈F,i5 r):(u,v)∈nots F↔[("not":fS),u,v]∈F:=by
 unfold nots;rw[List.mem_filterMap];constructor;rintro⟨r,d,e⟩;let(k,a,b,rfl,g):=hF r d;by_cases c:k="not";rw[fE (show([k,a,b].getD 0 "")="not" from c)] at e;let f:(a,b)=(u,v):=Am e;injection f with e1 e2;rw[<- e1,<- e2,<- c];exact d;rw[fD (show ¬ ([k,a,b].getD 0 "")="not" from c)] at e;cases e
 intro h;exact#[_,h,by rw[fE (show([("not":fS),u,v].getD 0 "")="not" from rfl)];rfl]
theorem afq(hF:∀r∈F,i5 r):Going F P (nots F) []:=#[λu v h=>(a1c hF).mpr h,λq a=>(ke F P).fact _ _ ((a1c hF).mp a),.nil,λi hi=>by simp at hi,λi hi=>by simp at hi,λi hi=>by simp at hi]
open Classical in
def oj(P:fG)(h:fS->fS)(n:fC):gQ:=decide (∃r,P[n]?=eV r/\ks r h [])
open Classical in
theorem emptyB_iff:oj P h n=eX↔∃r,P[n]?=eV r/\ks r h []:=by
 unfold oj;exact#[λz=>fV z,λz=>fU z]
theorem a6j(hn:P[n]?=eV r)(a:b=eX↔ks r h L):(!oj P h n) = !b:=by
 congr 1
 rw[Bm,emptyB_iff,a];constructor;rintro⟨r',h1,h2⟩;rw[hn] at h1;cases h1;exact h2;exact λz=>#[r,hn,z]
inductive spInitPS(K:Aa)(C:IS)(vs:eZ V)(H:Hp)(Q:VK):Prop
 |mk (p dx fl pl0:IS)(F P:fG)(h0:vs=[.ref p,.ref fl,.ref pl0])(h1:H p=eV (.ins C dx []))(h2:RowsAt K H fl F)(h3:F.length<=100)(h4:(∀r∈F,i5 r))(h5:RowsAt K H pl0 P)(h6:P.length<=15)(h7:(∀r∈P,PartRow r))(h8:∀pl hd un fu L Fl D dx' fs' H',Kp (· = p) H H'->KnS K C H' p pl hd un fu F P L->H' fu=eV (.dK (fk Fl))->AllTold F P L Fl->Going F P L Fl->H' p=eV (.ins C dx' fs')->fs'.lookup ("not_empty":fS)=eV (.ref D)->KFs fs' pl hd un fu->H' D=eV (.lst (((Bb P.length).filter λn => !oj P (fq F) n).map natV))->L.length<=400->Q .non H'):spInitPS K C vs H Q
def xl(K:Aa)(C:IS):Sp:=λvs H Q _=>spInitPS K C vs H Q
theorem a35:∀m∈yu,m≠("parts":fS)/\m≠("heads":fS)/\m≠("unlikes":fS)/\m≠("fulls":fS)/\m≠("not_empty":fS):=by decide
theorem a76:("parts":fS)≠"heads" /\ ("parts":fS)≠"unlikes" /\ ("parts":fS)≠"fulls" /\ ("parts":fS)≠"not_empty" /\ ("heads":fS)≠"unlikes" /\ ("heads":fS)≠"fulls" /\ ("heads":fS)≠"not_empty" /\ ("unlikes":fS)≠"fulls" /\ ("unlikes":fS)≠"not_empty" /\ ("fulls":fS)≠"not_empty" := by decide
theorem kfs4(pl hd un a:IS):KFs (putF "fulls" (.ref a) (putF "unlikes" (.ref un) (putF "heads" (.ref hd) (putF "parts" (.ref pl) [])))) pl hd un a:=by
 let(n1,n2,i,n,d,e,o,f,j,g):=a76;refine#[?_,?_,?_,?_,?_,λm hm=>?_];rw[fy,fD i,fy,fD n2,fy,fD n1,fy,fE rfl];rw[fy,fD e,fy,fD d,fy,fE rfl];rw[fy,fD f,fy,fE rfl];rw[fy,fE rfl]
 . let h1:=i9 "parts" (.ref pl) [];let h2:=i9 "heads" (.ref hd) (putF "parts" (.ref pl) []);let h3:=i9 "unlikes" (.ref un) (putF "heads" (.ref hd) (putF "parts" (.ref pl) []));let l:=i9 "fulls" (.ref a) (putF "unlikes" (.ref un) (putF "heads" (.ref hd) (putF "parts" (.ref pl) [])));simp only[DE] at h1
   lia
 let(b,c,h,m4,k):=a35 m hm;rw[fy,fD m4,fy,fD h,fy,fD c,fy,fD b];rfl
theorem KFs.more(h:KFs fs pl hd un c)(v:V)(hl:fs.length<50):KFs (putF "not_empty" v fs) pl hd un c:=by
 let(n1,n2,j,d,f,g,e,i,b,a):=a76;refine#[?_,?_,?_,?_,?_,λm hm=>?_];rw[fy,fD d];exact h.parts;rw[fy,fD e];exact h.heads;rw[fy,fD b];exact h.unlikes;rw[fy,fD a];exact h.fulls;let:=i9 "not_empty" v fs;lia;rw[fy,fD (a35 m hm).2.2.2.2];exact h.meth m hm
theorem ab2(hp:H p=eV (.ins C e fs))(k:Kp (· = p) H H')(h:RowsAt K H fl F):RowsAt K H' fl F:=by
 let(as,h1,h2):=h;refine#[as,k _ _ h1 (λz=>by let d:fl=p:=z;rw[d,hp] at h1;cases h1),Paired.mapP h2 λb r c=>?_];rcases c with (z|⟨o,z⟩)|z
 . exact .inl (.inl (k _ _ z λy=>by let a:b=p:=y;rw[a,hp] at z;cases z))
 . exact .inl (.inr #[o,k _ _ z λy=>by let a:b=p:=y;rw[a,hp] at z;cases z])
 exact .inr z
theorem a9g(Cn:Con K mg w)(T:Txt K mg C fI)(F:Fun K "__init__" "Knowledge.__init__" aby f fd)(GH:FnOk P w K mg base CX0 1 gH dH eS (yv K))(cH:eQ GH "heads_of")(GU:FnOk P w K mg base CX0 2 gU dU eT (xr C))(cU:eR GU C "tell_unlike")(GF:FnOk P w K mg base CX0 4 gF dF ["self"] (a6z K C))(cF:MCal K C "find_fulls" gF dF ["self"])(GE:FnOk P w K mg base CX0 3 gE dE ["self","number"] (uf K C ks))(cE:MCal K C "is_empty" gE dE ["self","number"]):FnOk P w K mg base CX0 5 f fd ["self","facts","parts"] (xl K C):=by
 refine F.okA ["self","facts","parts","fact"] λbt A outer s0 H vs Q E hr h nd=>?_;let(p,d,fl,pl0,G,W,rfl,h1,hF,aC,J,bh,aQ,aB,q):=h;let(l,X,aT):=id bh;let az:=A3 aT;let bu:=j4 hr;let be:=hr.mono (j:=3) (by lia);let a9:=hr.mono (j:=2) (by lia);let bl:=hr.mono (j:=1) (by lia);exists _,fc (kq (K:=K) rfl (qv 0) (iz km rfl Cn.list Be (fg (qv 2) fb)))
  (fc (kq (K:=K) rfl (qv 0) (gm GH bl cH (fg (qv 1) fb)))
  (fc (kq (K:=K) rfl (qv 0) a9s)
  (fc (kq (K:=K) rfl (qv 0) lx)
  (fc (im A1 rfl (iq (qv 1)) (ip 3 nd) (ff (gg (fo gk (fi K (qv 3) dl) gj (fm _)) (ff (ia (gi (qv 0) T.cl cU.meth GU a9 cU.bind .nil gt (ft (fi K (qv 3) dl) (ft (fi K (qv 3) dl) fb))))) gd)))
  (fc (ia (rz (qv 0) T.cl cF.meth GF hr cF.bind .nil gt))
  (ff (kq (K:=K) rfl (qv 0) (nr ["number","self"] [0] (jk rfl Cn.range (i7 (gn i6 rfl Cn.len AJ (fg (qv 2) fb)) fb)) (λ_ _ _ _=>(qr (ld (j5 (gi (qv 1) T.cl cE.meth GE be cE.bind .nil gt (fg (qv 0) fb)))))) (λ_ _ _ _=>(qv 0))))))))))
 nofun
 let kr:∀{Hx:Hp},Kp (· = p) H Hx->RowsAt K Hx fl G:=λk=>ab2 h1 k hF;let t:∀{n:fC},n<=10->n<1000:=λh=>by lia
 refine#[_,fR,pl0,_,fR,.inl (SqL.of X),λpl aU=>?_];let U:p≠pl:=gc h1 aU;exists _,fR,p,C,d,_,fR,(by rw[fh U];exact h1),T.cl,T.nP,t (AF _);let k1:Kp (· = p) H (upd (upd H pl (.lst (l.map V.ref))) p (.ins C d (putF "parts" (.ref pl) []))):=λb o g n=>by rw[fh n];exact fe aU _ _ _ g
 let aj:(upd (upd H pl (.lst (l.map V.ref))) p (.ins C d (putF "parts" (.ref pl) []))) p=eV (.ins C d (putF "parts" (.ref pl) [])):=ad;let au:(upd (upd H pl (.lst (l.map V.ref))) p (.ins C d (putF "parts" (.ref pl) []))) pl=eV (.lst (l.map V.ref)):=by rw[fh (AE U),ad]
 generalize upd (upd H pl (.lst (l.map V.ref))) p (.ins C d (putF "parts" (.ref pl) []))=H1 at k1 aj au |-;refine#[_,rfl,fl,G,rfl,kr k1,aC,J,λhd hm H2 e2 ae a8 aa hok=>?_];let bn:=e2 _ _ aj;let bb:=e2 _ _ au;let M:p≠hd:=gc aj ae;let bf:pl≠hd:=gc au ae;let bs:(putF "parts" (.ref pl) []).length<=1:=i9 _ _ _;exists _,fR,p,C,d,_,fR,bn,T.cl,T.nH,t (by lia);let k2:Kp (· = p) H (upd H2 p (.ins C d (putF "heads" (.ref hd) (putF "parts" (.ref pl) [])))):=λb o g n=>by rw[fh n];exact e2 _ _ (k1 b o g n)
 let S:(upd H2 p (.ins C d (putF "heads" (.ref hd) (putF "parts" (.ref pl) [])))) p=eV (.ins C d (putF "heads" (.ref hd) (putF "parts" (.ref pl) []))):=ad;let af:(upd H2 p (.ins C d (putF "heads" (.ref hd) (putF "parts" (.ref pl) [])))) pl=eV (.lst (l.map V.ref)):=by rw[fh (AE U)];exact bb
 let aS:(upd H2 p (.ins C d (putF "heads" (.ref hd) (putF "parts" (.ref pl) [])))) hd=eV (.dK (dS hm)):=by rw[fh (AE M)];exact a8
 let br:(putF "heads" (.ref hd) (putF "parts" (.ref pl) [])).length<=2:=by let:=i9 "heads" (.ref hd) (putF "parts" (.ref pl) []);lia
 generalize upd H2 p (.ins C d (putF "heads" (.ref hd) (putF "parts" (.ref pl) [])))=H3 at k2 S af aS |-;intro un an;let N:p≠un:=gc S an;let s4:=fe an (.dT []);exists _,fR,p,C,d,_,fR,s4 _ _ S,T.cl,T.nU,t (by lia);let bp:(putF "unlikes" (.ref un) (putF "heads" (.ref hd) (putF "parts" (.ref pl) []))).length<=3:=by let:=i9 "unlikes" (.ref un) (putF "heads" (.ref hd) (putF "parts" (.ref pl) []));lia
 let k3:Kp (· = p) H (upd (upd H3 un (.dT [])) p (.ins C d (putF "unlikes" (.ref un) (putF "heads" (.ref hd) (putF "parts" (.ref pl) []))))):=λb o g n=>by rw[fh n];exact s4 _ _ (k2 b o g n)
 let aq:(upd (upd H3 un (.dT [])) p (.ins C d (putF "unlikes" (.ref un) (putF "heads" (.ref hd) (putF "parts" (.ref pl) []))))) p=eV (.ins C d (putF "unlikes" (.ref un) (putF "heads" (.ref hd) (putF "parts" (.ref pl) [])))):=ad;let aH:(upd (upd H3 un (.dT [])) p (.ins C d (putF "unlikes" (.ref un) (putF "heads" (.ref hd) (putF "parts" (.ref pl) []))))) pl=eV (.lst (l.map V.ref)):=by rw[fh (AE U)];exact s4 _ _ af
 let ak:(upd (upd H3 un (.dT [])) p (.ins C d (putF "unlikes" (.ref un) (putF "heads" (.ref hd) (putF "parts" (.ref pl) []))))) hd=eV (.dK (dS hm)):=by rw[fh (AE M)];exact s4 _ _ aS
 let ar:(upd (upd H3 un (.dT [])) p (.ins C d (putF "unlikes" (.ref un) (putF "heads" (.ref hd) (putF "parts" (.ref pl) []))))) un=eV (.dT []):=by rw[fh (AE N),ad]
 let ax:H un=eW:=by
  cases qz:H un with|none=>rfl|some o=>let:=k2 un o qz (λz=>N z.symm);rw[an] at this;cases this
 generalize upd (upd H3 un (.dT [])) p (.ins C d (putF "unlikes" (.ref un) (putF "heads" (.ref hd) (putF "parts" (.ref pl) []))))=H4 at k3 aq aH ak ar |-;intro m s;let ab:p≠m:=gc aq s;let s5:=fe s (.dK []);exists _,fR,p,C,d,_,fR,s5 _ _ aq,T.cl,T.nF,t (by lia);let KF:=kfs4 pl hd un m;let aJ:(putF "fulls" (.ref m) (putF "unlikes" (.ref un) (putF "heads" (.ref hd) (putF "parts" (.ref pl) [])))).length<=4:=by let:=i9 "fulls" (.ref m) (putF "unlikes" (.ref un) (putF "heads" (.ref hd) (putF "parts" (.ref pl) [])));lia
 generalize putF "fulls" (.ref m) (putF "unlikes" (.ref un) (putF "heads" (.ref hd) (putF "parts" (.ref pl) [])))=I at KF aJ |-;let k4:Kp (· = p) H (upd (upd H4 m (.dK [])) p (.ins C d I)):=λb o g n=>by rw[fh n];exact s5 _ _ (k3 b o g n)
 let Y:(upd (upd H4 m (.dK [])) p (.ins C d I)) pl=eV (.lst (l.map V.ref)):=by rw[fh (AE U)];exact s5 _ _ aH
 let K4:KnAt C (upd (upd H4 m (.dK [])) p (.ins C d I)) p pl hd un m hm []:=#[#[d,I,ad,KF],by rw[fh (AE M)];exact s5 _ _ ak,by rw[fh (AE N)];exact s5 _ _ ar]
 let aK:(upd (upd H4 m (.dK [])) p (.ins C d I)) p=eV (.ins C d I):=ad;let ag:(upd (upd H4 m (.dK [])) p (.ins C d I)) m=eV (.dK (fk [])):=by rw[fh (AE ab),ad];rfl
 generalize upd (upd H4 m (.dK [])) p (.ins C d I)=H5 at k4 Y K4 aK ag |-;let am:=kr k4;let(aZ,av,a4):=am;let aO:=A3 a4;let(aL,B,bo):=hF;let aR:fl≠p:=λz=>by rw[z,h1] at B;cases B
 let aM:fl≠un:=λz=>by rw[z,ax] at B;cases B
 let aD:aZ=aL:=by
  let:=k4 _ _ B aR;rw[av] at this;let e:=Am this;injection e with e;exact CV (λa b h=>by injection h) |>.mp e
 subst aD;dsimp only;refine sr (a:=tFor _ _ _) λD1 aE aA aF=>?_;exists _,fR,fl,fR,#[_,SqL.of av];refine jj (xs:=aZ.map V.ref) (λi σ H'=>Kp (· = un) H5 H'/\Ex2 λ(uk:eZ (eZ Key×V)) (z3:fA V)=>And3 (H' un=eV (.dT uk)) (UkT uk (fq G) (nots (G.take i))) (σ=[rQ p,rQ fl,rQ pl0,z3]))
  #[λ_ _ q _=>q,[],eW,K4.uns,#[(λq hq=>nomatch hq),(AF _),(λa b=>#[(λh=>nomatch h),(λ⟨_,h,_⟩=>by rw[Cd] at h;cases h)])],fR] (λi σ H' _ pv=>SqL.of (pv.1 _ _ av λz=>aM z)) ?_ ?_
 . rintro i x σ H' hi ⟨kk,uk,z3,hU,O,rfl⟩
   nofun
   let(b,g,rfl):=lk hi;let(r,R,aX):=Paired.nth a4 g;let bw:i<G.length:=(Ao.mp R).1;let(k,u,v,rfl,hk):=J r (Ar R);let hR:RowAt K H' b [k,u,v]:=by
    rcases aX with (z|⟨o,z⟩)|z
    . exact .inl (.inl (kk _ _ z λy=>by let y':b=un:=y;rw[y',K4.uns] at z;cases z))
    . exact .inl (.inr #[o,kk _ _ z λy=>by let y':b=un:=y;rw[y',K4.uns] at z;cases z])
    exact .inr z
   let aV:G.take (i+1)=G.take i++[[k,u,v]]:=by rw[AL,R];rfl
   let KN:=K4.tell kk hU;let(ay,ai,g1,g2):=KN.ob;let bv:=O.len;let bq:(nots (G.take i)).length<=i:=AA (a1k _) (by rw[AG];lia);refine#[_,fR,b,_,0,.str k,fR,fR,hR,fR,fR,_,fR,iteB (λc=>?_) (λc=>?_)]
   . let aw:k="not" := by simpa using c
     subst aw;refine#[_,fR,p,ay,ai,fR,g1,g2.meth "tell_unlike" (by decide),_,fR,b,_,1,.str u,fR,fR,hR,fR,_,fR,b,_,2,.str v,fR,fR,hR,fR,p,pl,hd,un,m,hm,uk,u,v,fR,KN,by lia,λH6 k6 aG=>?_];rw[hok.hd,hok.hd] at aG;refine#[λb o q n=>k6 b o (kk b o q n) n,_,_,aG,?_,fR];rw[aV,aaw];exact O.step u v
   let aw:¬ k="not" := by simpa using c
   refine#[kk,uk,_,hU,?_,fR];rw[aV];rw[acz _ aw];exact O
 rintro σ H' ⟨kk,uk,z3,hU,O,rfl⟩;refine aE _ _ ?_;clear aE aA aF D1;rw[Ad,aO,AW] at O;let KN:=K4.tell kk hU;let(ay,ai,g1,g2):=KN.ob;let aI:pl≠un:=λz=>by rw[z,K4.uns] at Y;cases Y
 let ap:∀{b:IS} {o:HO},H b=eV o->b≠p->H' b=eV o:=λ{b o} g n=>kk _ _ (k4 b o g n) (λz=>by let z':b=un:=z;rw[z',ax] at g;cases g);let ac:IZ (λb r=>RowAt K H' b r) l W:=Paired.mapP aT λb r g=>by
  rcases g with (z|⟨o,z⟩)|z
  . exact .inl (.inl (ap z λy=>by rw[y,h1] at z;cases z))
  . exact .inl (.inr #[o,ap z λy=>by rw[y,h1] at z;cases z])
  exact .inr z
 let aN:m≠un:=λz=>by rw[z] at s;rw[ar] at s;cases s
 let ah:hd≠m:=λz=>by rw[<- z] at s;rw[ak] at s;cases s
 let a2:H' m=eV (.dK (fk [])):=kk _ _ ag aN;let KS:KnS K C H' p pl hd un m G W (nots G):=#[#[hm,uk,KN,hok,O],#[l,kk _ _ Y aI,ac],ah]
 let G0:=afq (P:=W) J;refine#[_,fR,p,ay,ai,fR,g1,g2.meth "find_fulls" (by decide),p,pl,hd,un,m,G,W,nots G,fR,KS,a2,J,aB,aQ,AA (a1k G) aC,G0,λL Fl H6 k6 aW a0 A6 G6 bd=>?_];let a5:H' p=eV (.ins C d I):=kk _ _ aK (λz=>N z);let ao:H6 p=eV (.ins C d I):=k6 _ _ a5 (λz=>z.elim N ab);let bk:H m=eW:=by
  cases qz:H m with|none=>rfl|some o=>let:=k3 m o qz (λz=>ab z.symm);rw[s] at this;cases this
 let aY:∀{b:IS} {o:HO},H b=eV o->b≠p->H6 b=eV o:=λ{b o} g n=>k6 _ _ (ap g n) (λz=>z.elim (λy=>by rw[y,ax] at g;cases g) (λy=>by rw[y,bk] at g;cases g));let al:H6 pl0=eV (.lst (l.map V.ref)):=aY X (λz=>by rw[z,h1] at X;cases X);let aa:(l.map V.ref).length=W.length:=by rw[Ad];exact az
 exists _,fR,pl0,_,fR,.inl (SqL.of al),_,fR,(by rw[aa];lia),(by rw[aa];lia);rw[aa,Bf];let((bj,bm,bc,a1,bg),Z,_):=id aW;refine qm (Bb W.length) (λn => !oj W (fq G) n) (by rw[<- a16];exact vd) trivial (by rw[B6];lia) (λn hn H7 e7 Q' q'=>?_) (λn H7 Q' q'=>#[_,fR,q']) λD H7 hD e7 a7=>?_;let bi:n<W.length:=Br.mp hn;let hs:W[n]?=eV W[n]:=Ah bi;refine#[_,fR,p,d,I,fR,e7 _ _ ao,KF.meth "is_empty" (by decide),_,fR,p,pl,hd,un,m,G,W,L,n,_,fR,aW.same e7,hs,aB _ (AH (Br.mp hn)),λb H8 e8 g=>#[b,fR,?_]];let:=q' H8 e8;rw[a6j hs g] at this;exact this
 let a3:=bc.same e7;let aP:H7 p=eV (.ins C d I):=e7 _ _ ao;exists _,fR,p,C,d,I,fR,aP,T.cl,T.nE,(by lia);let a6:D≠p:=λz=>by rw[z,ao] at hD;cases hD
 let ba:Kp (· = p) H7 (upd H7 p (.ins C d (putF "not_empty" (.ref D) I))):=λb o g n=>by rw[fh n];exact g
 refine q pl hd un m L Fl D d _ _ (λb o g n=>by rw[fh n];exact e7 _ _ (aY g n)) #[#[bj,bm,#[#[d,_,ad,KF.more (.ref D) (by lia)],by rw[fh (AE M)];exact a3.hds,by rw[fh (AE N)];exact a3.uns],a1,bg],tq (Z.same e7) ba (λb g=>#[.ins C d I,by rw[show b=p from g];exact aP,.inr (.inr (.inr #[_,_,_,fR]))]),ah] (by rw[fh (AE ab)];exact e7 _ _ a0) A6 G6 ad (by rw[fy,fE rfl]) (KF.more (.ref D) (by lia)) (by rw[fh a6];exact a7) bd
abbrev a8h:JA:=top 35
def Ok(x:fS):Prop:=(PyData.str x).canLay0=eX
theorem Ok.app(b:Ok x)(a:Ok y):Ok (x++y):=by
 unfold Ok at*;simp only[BK] at*;unfold IG at*;rw[EG,Array.all_append,b,a];rfl
theorem x4{rs:fG}(h:∀r∈rs,∀y∈r,Ok y):EqOk (.list (rs.map dRow)):=by
 let h1:∀r:fJ,(∀y∈r,Ok y)->Bg (uy r)=eX:=λr h=>by
  unfold uy;induction r with
  |nil=>simp only[BF,Bg]
  |cons x l ih =>
   simp only[A5,Bg,Bv];exact#[h x (Af ..),ih λy b=>h y (Ag _ b)]
 let h2:∀r:fJ,Bq (uy r)<=0:=λr=>by
  unfold uy;induction r with|nil=>simp only[BF,Bq];exact An _|cons x l ih=>simp only[A5,Bq,Ca];exact Gr.mpr #[An _,ih]
 let h3:∀rs:fG,(∀r∈rs,∀y∈r,Ok y)->Bg (rs.map dRow)=eX:=λrs h=>by
  induction rs with
  |nil=>simp only[BF,Bg]
  |cons r l ih =>
   simp only[A5,Bg,Bv,dRow,BK];exact#[h1 r (h r (Af ..)),ih λr' a=>h r' (Ag _ a)]
 let c:∀rs:fG,Bq (rs.map dRow)<=1:=λrs=>by
  induction rs with
  |nil=>simp only[BF,Bq];lia
  |cons r l ih =>
   let:=h2 r;simp only[A5,Bq,dRow,Ca]
   lia
 constructor;simp only[BK];exact h3 rs h
 let:=c rs;simp only[Ca]
 lia
inductive spMixedS(vs:eZ V)(H:Hp)(Q:VK):Prop
 |mk (c:fB)(k:fC)(h0:vs=[.int c,.int (k:fB)])(h1:k<=500)(h2:∀n:fB,0<=n->Q (.int n) H):spMixedS vs H Q
def nk:Sp:=λvs H Q _=>spMixedS vs H Q
inductive tLeftS(D:Ends)(σ:St)(H:Hp):Prop
 |mk (c:fB)(k:fC)(l:fB)(h0:σ=[iQ c,iQ (k:fB),iQ l,nQ,nQ])(h1:k<=500)(h2:∀l z3,D.nx [iQ c,iQ (k:fB),iQ l,z3,nQ] H):tLeftS D σ H
def agc:TS:=λD σ H=>tLeftS D σ H
inductive tOwnS(D:Ends)(σ:St)(H:Hp):Prop
 |mk (c l:fB)(z1 z3:fA V)(h0:σ=[iQ c,z1,iQ l,z3,nQ])(h1:(∀n:fB,0<=n->D.rt (.int n) H))(h2:D.nx σ H):tOwnS D σ H
def tOwn:TS:=λD σ H=>tOwnS D σ H
theorem aa2(C:Con K mg w)(F:Fun K "_law_mixed" "_law_mixed" a8h f fd):FnOk P w K mg base CX0 1 f fd ["_law_cell","_law_k"] nk:=by
 refine F.okA ["_law_cell","_law_k","_law_left","_law_j","_law_number"] λg A outer s0 H vs Q E p h nd=>?_;let(c,k,rfl,e,q):=h;exists _,fc (fz 2 nd (fj ib (qv 0) dl))
  (fc (nv (t':=agc) (im A1 rfl (jk rfl C.range (j9 (fj i3 (fj ib (qv 1) dl) (fj gx (qv 1) dl)) fb)) (ip 3 nd) (fc (gg (QW.qt (mo (fo gk (qv 2) dl (fm _)) (ls (fo gk (qv 2) (wk t8 dl) (fm _))))) (ff aab) gd)
  (ff (fz 2 nd (fj a1o (qv 2) dl))))) (λD σ H b=>by
   let(c,k,l,rfl,e,go):=b;refine#[_,fR,_,_,fR,fR,(show CDiv _ 70 from#[by decide,by decide]),_,fR,_,_,fR,fR,(show(0:fB)<70 by decide),_,_,fR,fR,_,fR,?_,?_,?_];lia;lia
   refine kd (lo:=0) (n:=((k:fB) / 70+(k:fB) % 70).toNat) (λ_ σ H'=>∃(l:fB) (a:fA V),H'=H/\σ=[iQ c,iQ (k:fB),iQ l,a,nQ]) #[_,eW,fR,fR] ?_ ?_
   . rintro i σ H' hi ⟨l,a,rfl,rfl⟩
     nofun
     refine#[_,fR,fR,_,fR,iteB (λ_=>go _ _) (λ_=>?_)];refine#[_,fR,_,fR,fR,_,fR,iteB (λ_=>go _ _) (λ_=>?_)];exact#[_,fR,_,_,fR,fR,(show a44 _ 2147483587 from#[by decide,by decide]),_,_,fR,fR]
   rintro σ H' ⟨l,a,rfl,rfl⟩;exact go _ _))
  (fc (nv (t':=tOwn) (gg (QW.qt (j6 (fo gk (fj gx (qv 0) dl) dl (fm _)) (j6 (fo kc (qv 2) dl (fm _)) (je (fo kc (qv 2) (wk t8 dl) (fm _)))))) (ff (fx (fj gx (qv 2) dl))) gd) (λD σ H b=>by
   let(c,l,s,a,rfl,go,nx):=b;refine#[_,fR,_,_,fR,fR,(show(0:fB)<2 by decide),fR,_,fR,iteB (λ_=>?_) (λ_=>nx)];refine#[_,fR,fR,_,fR,iteB (λ_=>?_) (λ_=>nx)];refine#[_,fR,_,fR,fR,_,fR,iteB (λ_=>?_) (λ_=>nx)];exact#[_,fR,_,_,fR,fR,(show(0:fB)<2147483587 by decide),go _ (AM _ (by decide))]))
  (fc (fz 4 nd (fj gx (fj i3 (fj i3 (fj li (fj gx (qv 0) dl) dl) (fj li (fj li (qv 1) (qv 1)) dl)) dl) dl))
  (fc (fz 4 nd (fj gx (fj li (qv 4) (qv 4)) dl))
  (ff (fx (fj gx (fj li (qv 4) (fj i3 (qv 4) dl)) dl)))))))
 nofun
 exists _,fR,_,_,fR,fR,(show CDiv _ 2 from#[by decide,by decide]);refine#[c,k,_,fR,e,λl a=>?_];exists c,l,_,_,fR,q;let m:=AM c (show(2147483647:fB)≠0 by decide);let r:=AU c (show(0:fB)<2147483647 by decide);exists _,fR,_,_,fR,fR,(show(0:fB)<2147483647 by decide),_,_,fR,fR,.inl #[by lia,by lia],_,fR,_,fR,_,_,fR,fR,.inl #[by lia,by lia],_,_,fR,fR,.inr #[by decide,by decide],_,_,fR,fR,_,_,fR,fR,_,_,fR,fR,(show(0:fB)<2147483629 by decide);generalize (c % 2147483647*48271+(k:fB)*(k:fB)*69621+7919)=y;let o:=AM y (show(2147483629:fB)≠0 by decide);let j:=AU y (show(0:fB)<2147483629 by decide);exists _,fR,_,fR,_,_,fR,fR,.inl #[by lia,by lia],_,_,fR,fR,(show(0:fB)<2147483587 by decide);generalize (y % 2147483629)*(y % 2147483629)=d;let t:=AM d (show(2147483587:fB)≠0 by decide);let u:=AU d (show(0:fB)<2147483587 by decide);exists _,fR,_,fR,_,_,fR,fR,_,_,fR,fR,.inl #[by lia,by lia],_,_,fR,fR,(show(0:fB)<2147483563 by decide);exact q _ (AM _ (by decide))
end K37
namespace L2
theorem aam{g:TG}{h:TS}{D:Ends}(Pv:fC->St->Hp->Prop)(k:Pv 0 σ H)(l:∀i c σ H,i<z.cps.size->z.cps.toList[i]?=eV c->Pv i σ H->let N:=Pv (i+1);g (.str #[[c].toArray]) σ H λd f=>h {D with nx:=N,ct:=N,bk:=D.nx} d f)(hd:∀σ H,Pv z.cps.size σ H->D.nx σ H):
 ∃W:fC->fC->St->Hp->Prop,(∃m,W 0 m σ H)/\∀i m σ H,W i m σ H->
  ((Its z).stop i H/\D.nx σ H)\/((Its z).go i H/\∃N:St->Hp->Prop,(∀b H',N b H'->∃j,j<m/\W (i+1) j b H')/\∀x H',(Its z).yld i H x H'->g x σ H' λd f=>h {D with nx:=N,ct:=N,bk:=D.nx} d f):=by
 exists λi m σ H=>m=z.cps.size-i/\i<=z.cps.size/\Pv i σ H,#[z.cps.size,by simp,AF _,k];rintro i m σ H ⟨rfl,hi,p⟩;by_cases a:i<z.cps.size;refine .inr #[a,Pv (i+1),λb H' o=>#[z.cps.size-(i+1),by lia,fR,a,o],λx H' y=>?_];let(e,c,n,y):=y;subst e y;exact l i c σ _ a (by rw[B3];exact n) p
 let e:i=z.cps.size:=by lia
 subst e;exact .inl #[An _,hd σ H p]
end L2
namespace K37
open L2 Mir Kn
abbrev abo:JA:=top 36
abbrev a7l:JA:=top 37
structure Nm(k:fC)(x:fS):Prop where
 len:x.length<=k
 ok:Ok x
theorem Nm.mono(h:Nm k x)(b:k<=a):Nm a x:=#[AA h.len b,h.ok]
theorem ok_iff:Ok x↔∀c∈x.cps.toList,c<0x110000:=by
 unfold Ok;simp only[BK];unfold IG;rw[<- Array.all_toList,Bo];simp only[fZ]
theorem ua(h:Ok z)(a:c∈z.cps.toList):Nm 1 #[[c].toArray]:=#[An _,ok_iff.mpr λd hd=>by
 simp only[Ak,Aq,gD] at hd;subst hd;exact ok_iff.mp h _ a]
theorem Nm.app(b:Nm j x)(a:Nm k y):Nm (j+k) (x++y):=#[by
 let h1:=b.len;let h2:=a.len;let:(x++y).length=x.length+y.length:=Str.length_append x y
 lia,b.ok.app a.ok]
theorem Nm.cut(b:Nm k x)(lo hi:fA fB):Nm k (cutS x lo hi):=by
 constructor
 . let:=b.len;let e:(cutS x lo hi).length<=x.length:=by
    show((x.cps.toList.drop (HT.sIx x.length 0 lo)).take _).toArray.size<=x.cps.size;rw[A0,AG,By,AC]
    lia
   lia
 refine ok_iff.mpr λc d=>ok_iff.mp b.ok c ?_;let a:c∈(x.cps.toList.drop (HT.sIx x.length 0 lo)).take (HT.sIx x.length x.length hi-HT.sIx x.length 0 lo):=d;exact CF (Bp a)
theorem wt(b:0<=i)(h1:i<xs.length):∃v,atI xs i=eV v/\v∈xs:=by
 obtain⟨j,rfl⟩:∃j:fC,i=(j:fB):=#[i.toNat,by lia]
 let a:j<xs.length:=by lia
 exact#[xs[j],jo (by rw[Ah a]),AH a]
theorem jt(h:n<=1000):n<=IR:=AA h (by decide)
theorem jf(h:n<=1000):n<IR:=AI h (by decide)
inductive spNamesS(K:Aa)(vs:eZ V)(H:Hp)(Q:VK):Prop
 |mk (c:fB)(n:fC)(h0:vs=[.int c,.int (n:fB)])(h1:n<=10)(h2:∀l xs H',Same H H'->H' l=eV (.lst ((xs:fJ).map V.str))->xs.length=n->(∀x∈xs,Nm 40 x/\¬ x∈Mir.noNames)->Q (.ref l) H'):spNamesS K vs H Q
def uh(K:Aa):Sp:=λvs H Q _=>spNamesS K vs H Q
def signsT:fS := "abcdefghijklmnopqrstuvwxyz0123456789"
def wordsT:fJ:=["nil","any","is","not","cell","stretch","tree","nothing","then","with"]
theorem a8q:wordsT=Mir.noNames:=by decide
theorem a05(h:x.cps.toList=pre++[c])(d:fC):cutS x eW (eV (-1))++(#[[d].toArray]:fS)=#[(pre++[d]).toArray]:=by
 let hl:x.length=pre.length+1:=by
  let:x.cps.toList.length=pre.length+1:=by rw[h,Aj];rfl
  rw[AC] at this;exact this
 let h1:(cutS x eW (eV (-1))).cps=pre.toArray:=by
  show(List.take (HT.sIx x.length x.length (eV (-1))-HT.sIx x.length 0 eW) (List.drop (HT.sIx x.length 0 eW) x.cps.toList)).toArray=_;let g:HT.sIx x.length x.length (eV (-1))=pre.length:=by
   unfold HT.sIx;simp only[hl];rw[fE (by decide)]
   lia
  let f:HT.sIx x.length 0 eW=0:=rfl;rw[g,f,DQ,Eu,h,List.take_left'];rfl
 let h2:(cutS x eW (eV (-1))++(#[[d].toArray]:fS)).cps=(cutS x eW (eV (-1))).cps ++ [d].toArray:=EG _ _;let h3:∀a b:fS,a.cps=b.cps->a=b:=λa b e=>by cases a;cases b;cases e;rfl
 refine h3 _ _ ?_;rw[h2,h1];show pre.toArray ++ [d].toArray=(pre++[d]).toArray;simp
theorem nz{α:Type}[DecidableEq α]:∀{l m:eZ α},l.Nodup->(∀x∈l,x∈m)->l.length<=m.length
 |[],_,_,_=>AF _
 |x::l,m,hn,hm=>by
  let b:=hm x (Af ..);let(h1,h2):=AK.mp hn;let h3:=nz (l:=l) (m:=m.erase x) h2 λy a=>(E1 (λz=>h1 (by rw[<- z];exact a))).mpr (hm y (Ag _ a));rw[DN b] at h3;let:=CZ b;rw[Au]
  lia
theorem aep{ns:fJ}{z:fS}(hz:z.cps.toList.Nodup)(hl:z.cps.size=26)(hn:ns.length<26):¬ ∀k c,k<26->z.cps.toList[k]?=eV c->(#[(pre++[c]).toArray]:fS)∈ns:=by
 intro h;let h1:(z.cps.toList.map λc=>(#[(pre++[c]).toArray]:fS)).Nodup:=HA.mpr (HB (λ{a b} d e=>d (by
  let i:=fX (λs:fS=>s.cps.toList) e;simpa using i)) hz)
 let h2:=nz (m:=ns) h1 λx g=>by
  let(c,j,rfl):=As.mp g;let(k,f,e):=GD j;rw[AC,hl] at f;exact h k c f (List.getElem?_eq_some_iff.mpr #[by rw[AC];lia,e])
 rw[Ad,AC,hl] at h2
 lia
theorem w8:Ok signsT:=show(PyData.str signsT).canLay0=eX by decide
theorem a9d:∀x∈wordsT,Nm 40 x:=λx a=>by
 let h1:wordsT.all (λx=>decide (x.length<=40) && (PyData.str x).canLay0)=eX:=by decide
 let h2:=Bo.mp h1 x a;rw[Bv] at h2;exact#[fV h2.1,h2.2]
theorem aeb(C:Con K mg w)(F:Fun K "_law_free_names" "_law_free_names" abo f fd):FnOk P w K mg base CX0 1 f fd ["_law_cell","_law_many"] (uh K):=by
 refine F.okA ["_law_cell","_law_many","_law_signs","_law_names_here","_law_k","_law_name","_law_left","_law_j","_law_sign"] λan A outer s0 H vs Q E hr h nd=>?_;let(c,n,rfl,hn,q):=h;exists _,fc (fz 2 nd gj)
  (fc (fz 3 nd (ie (gw (gw (gw (gw (gw (gw (gw (gw (gw (gw fb))))))))))))
  (fc (im A1 rfl (jk rfl C.range (fg (qv 1) fb)) (ip 4 nd) (fc (fz 5 nd (my wu (qv 2) (fj gx (fj ib (qv 0) dl) dl) (λ_ _=>rfl)))
  (fc (fz 6 nd (fj ib (qv 0) dl))
  (fc (im A1 rfl (jk rfl C.range (j9 (fj gx (qv 0) dl) fb)) (ip 7 nd) (fc (fz 5 nd (fj ou (qv 5) (my wu (qv 2) (fj gx (qv 6) dl) (λ_ _=>rfl))))
  (ff (fz 6 nd (fj ib (qv 6) dl)))))
  (fc (im A1 rfl (afw (kz a7u (qv 2) mq (lj dl))) (ip 8 nd) (ff (gg (fo ud (qv 5) (qv 3) (by with_unfolding_all rfl)) (ff (fz 5 nd (fj ou (kz a7u (qv 5) mq (lj (wk t8 dl))) (qv 8)))) gd)))
  (fc (ia (jv (K:=K) rfl A8 AO AQ ji (qv 3) (fg (qv 5) fb)))
  (ff (fz 0 nd (fj a1o (qv 0) (fj li dl (fj afl dl dl)))))))))))
  (ff (fx (kz nu (qv 3) (lj dl) mq)))))
 nofun
 refine#[(by decide),λs R=>?_];let Z:=fe R (.lst (wordsT.map V.str));let W:(upd H s (.lst (wordsT.map V.str))) s=eV (.lst (wordsT.map V.str)):=ad
 replace Z:Same H (upd H s (.lst (wordsT.map V.str))):=Z
 show tSeq _ _ _ _ (upd H s (.lst (wordsT.map V.str)));generalize upd H s (.lst (wordsT.map V.str))=H1 at Z W |-;exists _,fR,_,fR,by lia,(by lia);refine kd (lo:=0) (n:=(n:fB).toNat) (λi σ S=>Ex7 λ(c:fB) (ns:fJ) (z4 z5 z6 u v:fA V)=>And7 (σ=[iQ c,iQ (n:fB),eV (.str signsT),rQ s,z4,z5,z6,u,v]) (Same H S) (S s=eV (.lst (ns.map V.str))) (ns.length=10+i) ((∀x∈ns,Nm 40 x)) (ns.take 10=wordsT) (∀x∈ns.drop 10,¬ x∈wordsT)) #[c,wordsT,eW,eW,eW,eW,eW,fR,Z,W,fR,a9d,fR,λx g=>by cases g] ?_ ?_
 . rintro i σ S hi ⟨c,ns,z4,z5,z6,u,v,rfl,e2,t,ai,B,J,I⟩
   nofun
   let al:i<10:=by lia
   let G:signsT.length<=IR:=by decide
   let y:signsT.cps.toList.length=36:=by decide
   let ah:=AM (c / 8) (show(26:fB)≠0 by decide);let am:=AU (c / 8) (show(0:fB)<26 by decide);let(c1,ae,ac):=wt (xs:=signsT.cps.toList) (i:=c / 8 % 26) ah (by rw[y];lia);exists _,fR,_,fR,_,_,fR,fR,(show CDiv _ 8 from#[by decide,by decide]),_,_,fR,fR,(show(0:fB)<26 by decide),signsT,_,c1,fR,fR,G,ae;exists _,fR,_,_,fR,fR,(show CDiv _ 208 from#[by decide,by decide]);let m8:=AM c (show(8:fB)≠0 by decide);let ap:=AU c (show(0:fB)<8 by decide);refine#[_,fR,_,_,fR,fR,(show(0:fB)<8 by decide),_,fR,by lia,by lia,?_];refine kd (lo:=0) (n:=(c % 8).toNat) (λj σ H3=>H3=S/\Ex3 λ(nm:fS) (l:fB) (u:fA V)=>And3 (σ=[iQ c,iQ (n:fB),eV (.str signsT),rQ s,iQ (0+(i:fB)),eV (.str nm),iQ l,u,v]) (Nm (1+j) nm) (∃pre c,nm.cps.toList=pre++[c])) #[fR,_,_,_,fR,ua w8 ac,[],c1,fR] ?_ ?_
   . rintro j σ H3 hj ⟨rfl,nm,l,u,rfl,a,aq⟩
     nofun
     let(c2,ak,af):=wz (xs:=signsT.cps.toList) (m:=36) (i:=l) (by rw[y];rfl) (by decide);let U:=a.len;exists _,fR,_,fR,_,fR,_,_,fR,fR,(show(0:fB)<36 by decide),signsT,_,c2,fR,fR,G,ak,nm,_,fR,fR,jt (by show nm.length+1<=1000;lia);exact#[_,fR,_,_,fR,fR,(show CDiv _ 36 from#[by decide,by decide]),fR,_,_,_,fR,a.app (ua w8 af),nm.cps.toList,c2,by rw[EG,GQ]]
   rintro σ H3 ⟨rfl,nm,l,u,rfl,a,pre,c0,Y⟩;let X:Nm 8 nm:=a.mono (by lia);clear a;let aj:∀d∈(cutS signsT eW (eV 26)).cps.toList,d∈signsT.cps.toList:=λd hd=>by
    let ag:d∈(signsT.cps.toList.drop (HT.sIx signsT.length 0 eW)).take (HT.sIx signsT.length signsT.length (eV 26)-HT.sIx signsT.length 0 eW):=hd;exact CF (Bp ag)
   let D:(cutS signsT eW (eV 26)).cps.size=26:=by decide
   exists _,fR,_,fR,signsT,fR,G,_,rfl;refine aam (λj σ H4=>H4=H3/\∃(nm:fS) (v:fA V),σ=[iQ c,iQ (n:fB),eV (.str signsT),rQ s,iQ (0+(i:fB)),eV (.str nm),iQ l,u,v]/\Nm (8+j) nm/\(∃c,nm.cps.toList=pre++[c])/\(nm∈ns->∀k c,k<j->(cutS signsT eW (eV 26)).cps.toList[k]?=eV c->(#[(pre++[c]).toArray]:fS)∈ns)) #[fR,_,_,fR,X,#[c0,Y],λ_ k c hk=>fF hk (FF k)] ?_ ?_
   . rintro j d σ H4 hj T ⟨rfl,nm,v,rfl,a,⟨c9,N⟩,r⟩
     nofun
     let hd:=Ar T;let U:=a.len;rw[D] at hj;refine#[_,fR,_,fR,s,_,fR,.inl (SqL.of t),fR,(by rw[E2];exact Bo.mpr λ_ _=>rfl),_,fR,iteB (λL=>?_) (λL=>#[fR,_,_,fR,a.mono (by lia),#[c9,N],λz=>by
      let z':inV (.str nm) (ns.map V.str)=eX:=(vt nm ns).trans (fU z);exact fF (z'.symm.trans L) (by decide)])]
     let ab:nm∈ns:=fV ((vt nm ns).symm.trans L);let hc:=a.cut eW (eV (-1));let ao:=hc.len;exact#[_,fR,_,fR,_,fR,nm,fR,jt (by lia),_,fR,_,_,fR,fR,jt (by show _+1<=1000;lia),fR,_,_,fR,hc.app (ua w8 (aj d hd)),#[d,by rw[a05 N d]],λz k c hk O=>by
      by_cases e:k=j;subst e;rw[T] at O;cases O;rw[a05 N d] at z;exact z
      exact r ab k c (by lia) O]
   rintro σ H4 ⟨rfl,nm,v,rfl,a,_,r⟩;rw[D] at a r;let M:¬ nm∈ns:=λz=>aep (pre:=pre) (ns:=ns) (z:=cutS signsT eW (eV 26)) (by decide) D (by lia) (r z);exists _,fR,(.inl #[fR,_,SqL.of t]),_,fR,s,ns.map V.str,_,fR,fR,t,jf (by rw[Ad];lia);exists _,fR,_,_,fR,fR,(show CPow 36 7 from#[by decide,by decide,by decide]),_,_,fR,fR,.inl #[by decide,by decide],_,_,fR,fR,(show a44 _ _ from#[by decide,by decide]);exists _,ns++[nm],_,_,_,_,_,fR,?_,?_,?_,?_,?_;exact λb o hb=>by rw[fh (gc hb R)];exact e2 b o hb
   . rw[ad,Ax];rfl
   . rw[Aj,Av];lia
   . intro x g;rcases Ab.mp g with g|g;exact B x g;rw[Ae.mp g];exact a.mono (by lia)
   . rw[List.take_append_of_le_length (by lia)];exact J
   intro x g;rw[List.drop_append_of_le_length (by lia)] at g;rcases Ab.mp g with g|g;exact I x g;rw[Ae.mp g,<- J];exact λz=>M (Bp z)
 rintro σ S ⟨c,ns,z4,z5,z6,u,v,rfl,e2,t,ai,B,J,I⟩;refine#[_,fR,_,fR,s,_,fR,SqL.of t,λp hp=>?_];let aa:cutV (ns.map V.str) (eV 10) eW=(ns.drop 10).map V.str:=by
  unfold cutV;rw[Ad,show HT.sIx ns.length 0 (eV 10)=10 by show min 10 ns.length=10;lia,show HT.sIx ns.length ns.length eW=ns.length from rfl,<- EX,B0 (by rw[Ad,By];lia)]
 rw[aa];refine q p (ns.drop 10) _ (e2.trans (fe hp _)) ad (by rw[By];lia) λx g=>#[B x (CF g),a8q ▸ I x g]
theorem qp:kb X (.type "int") (λxs H Q=>∃b:gQ,xs=[.bl b]/\Q (.int (if b=eX then 1 else 0)) H):=by
 intro a s σ H xs us Q I r h;let(b,rfl,q):=h;let(u,rfl,c):=r.one;cases c;exact PySem.call_int_bool #[.int _,H,I.tok _,#[_,fR],q]
def lettT:fS := "abcdefghijkmnopqruvwxz"
def figT:fS := "0123456789"
theorem adu:Ok lettT:=show(PyData.str lettT).canLay0=eX by decide
def evenS(x:fS):Prop:=∀c∈x.cps.toList,c∈lettT.cps.toList++figT.cps.toList
theorem acm(h:evenS x):¬ x∈Mir.noNames:=λa=>by
 let h1:Mir.noNames.all (λy=>y.cps.toList.any λc => !decide (c∈lettT.cps.toList++figT.cps.toList))=eX:=by decide
 let(c,b,hn):=AV.mp (Bo.mp h1 x a);rw[fU (h c b)] at hn;cases hn
theorem evenS.app(h:evenS x)(a:c∈lettT.cps.toList++figT.cps.toList):evenS (x++#[[c].toArray]):=λd hd=>by
 rw[EG,GQ] at hd;rcases Ab.mp hd with z|z;exact h d z;rw[Ae.mp z];exact a
theorem aeh:Ok figT:=show(PyData.str figT).canLay0=eX by decide
inductive EvI(H2:Hp)(c n at0:fB)(l1:IS)(i j:fC)(σ:St)(H3:Hp):Prop
 |mk (h0:H3=H2)(nm:fS)(z8 z9:fA V)(h1:σ=[iQ c,iQ n,eV (.str lettT),iQ at0,rQ l1,iQ (0+(i:fB)),eV (.str nm),z8,z9])(h2:Nm j nm)(h3:evenS nm):EvI H2 c n at0 l1 i j σ H3
theorem aay(C:Con K mg w)(F:Fun K "_law_names" "_law_names" a7l f fd)(GF:FnOk P w K mg base CX0 1 gF dF eS (uh K))(M:eQ GF "_law_free_names"):FnOk P w K mg base CX0 2 f fd ["_law_cell","_law_many"] (uh K):=by
 refine F.okA ["_law_cell","_law_many","_law_letters","_law_at","_law_names_here","_law_k","_law_name","_law_j","_law_step"] λab A outer s0 H vs Q E hr h nd=>?_;let(c,n,rfl,hn,q):=h;exists _,fc (gg (fo gk (fj gx (qv 0) dl) dl (fm _)) (ff (fx (gm GF hr M (j9 (fj ib (qv 0) dl) (fg (qv 1) fb))))) gd)
  (fc (fz 0 nd (fj ib (qv 0) dl))
  (fc (fz 2 nd gj)
  (fc (fz 3 nd (fj gx (fj ib (qv 0) dl) (fj i3 dl (fj gx (qv 0) dl))))
  (fc (fz 4 nd (ie fb))
  (fc (im A1 rfl (jk rfl C.range (fg (qv 1) fb)) (ip 5 nd) (fc (fz 6 nd gj)
  (fc (im A1 rfl (jk rfl C.range (j9 (fj i3 dl (fj gx (qv 0) dl)) fb)) (ip 7 nd) (fc (fz 8 nd (fj i3 (fj li (qv 7) (fj gx (fj ib (qv 0) dl) dl)) (fj li (qv 5) (iz qp rfl C.int Eg (jq (j7 gk (qv 7) (qv 3) (fm _)) fb)))))
  (ff (gg (QW.qt (j6 (fo zo (qv 7) dl (fm _)) (je (fo gk (fj gx (fj i3 (fj ib (qv 0) dl) (qv 7)) dl) dl (fm _))))) (ff (fz 6 nd (fj ou (qv 6) (my wu gj (fj gx (fj i3 (fj ib (qv 0) dl) (qv 8)) dl) (λ_ _=>rfl))))) (ff (fz 6 nd (fj ou (qv 6) (my wu (qv 2) (fj gx (fj i3 (fj ib (qv 0) dl) (qv 8)) dl) (λ_ _=>rfl)))))))))
  (ff (ia (jv (K:=K) rfl A8 AO AQ ji (qv 4) (fg (qv 6) fb)))))))
  (ff (fx (qv 4))))))))
 nofun
 refine#[_,fR,_,_,fR,fR,(show(0:fB)<2 by decide),fR,_,fR,iteB (λ_=>?_) (λ_=>?_)];exact#[_,fR,_,_,fR,fR,(show CDiv _ 2 from#[by decide,by decide]),_,fR,c / 2,n,fR,hn,q]
 exists _,fR,_,_,fR,fR,(show CDiv _ 2 from#[by decide,by decide]);let m8:=AM (c / 2) (show(8:fB)≠0 by decide);exists _,fR,_,_,fR,fR,(show CDiv _ 8 from#[by decide,by decide]),_,fR,_,_,fR,fR,(show(0:fB)<8 by decide),_,_,fR,fR,_,_,fR,fR,(show(0:fB)<1+c / 2 % 8 by lia);refine#[(by decide),λg G=>?_];exists _,fR,_,fR,by lia,(by lia);refine kd (lo:=0) (n:=(n:fB).toNat) (λi σ I=>Ex7 λ(c at0:fB) (ns:fJ) (O N z t:fA V)=>And5 (σ=[iQ c,iQ (n:fB),eV (.str lettT),iQ at0,rQ g,O,N,z,t]) (Same H I) (I g=eV (.lst (ns.map V.str))) (ns.length=i) (∀x∈ns,Nm 40 x/\¬ x∈Mir.noNames)) #[_,_,[],eW,eW,eW,eW,fR,fe G _,ad,fR,λx r=>by cases r] ?_ ?_
 . rintro i σ I hi ⟨c,at0,ns,O,N,z,t,rfl,S,e,U,p⟩
   nofun
   let Z:i<10:=by lia
   let m8:=AM c (show(8:fB)≠0 by decide);let ac:=AU c (show(0:fB)<8 by decide);let D:lettT.length<=IR:=by decide
   let v:lettT.cps.toList.length=22:=by decide
   let T:figT.length<=IR:=by decide
   let J:figT.cps.toList.length=10:=by decide
   refine#[_,fR,_,_,fR,fR,(show(0:fB)<8 by decide),_,_,fR,fR,_,fR,by lia,by lia,?_];refine kd (lo:=0) (n:=(1+c % 8).toNat) (λj σ s=>EvI I c (n:fB) at0 g i j σ s) #[fR,_,_,_,fR,#[An _,show(PyData.str ("":fS)).canLay0=eX by decide],(λc hc=>by cases hc)] ?_ ?_
   . rintro j σ s hj ⟨rfl,nm,z,t,rfl,a,l⟩
     nofun
     let aa:=a.len;let ae:j<8:=by lia
     exists _,fR,_,fR,_,_,fR,fR,(show CDiv _ 64 from#[by decide,by decide]),_,_,fR,fR,(show(0:fB)<5 by decide),_,_,fR,fR,.inl #[by lia,by lia];exists _,fR,_,fR,_,fR,fR,_,fR,_,_,fR,fR,.inl #[by lia,by lia],_,_,fR,rfl;generalize (if decide (V.int (0+(j:fB))=V.int at0)=eX then(1:fB) else 0)=d;let(X,y,u):=wz (xs:=lettT.cps.toList) (m:=22) (i:=c / 320+((0+(j:fB))*(c / 64 % 5)+(0+(i:fB))*d)) (by rw[v];rfl) (by decide);let(Y,W,B):=wz (xs:=figT.cps.toList) (m:=10) (i:=c / 320+((0+(j:fB))*(c / 64 % 5)+(0+(i:fB))*d)) (by rw[J];rfl) (by decide);let L:EvI s c (n:fB) at0 g i (j+1) [eV (.int c),eV (.int (n:fB)),eV (.str lettT),eV (.int at0),eV (.ref g),eV (.int (0+(i:fB))),eV (.str (nm++#[[X].toArray])),eV (.int (0+(j:fB))),eV (.int ((0+(j:fB))*(c / 64 % 5)+(0+(i:fB))*d))] s:=#[fR,_,_,_,fR,a.app (ua adu u),l.app (Ab.mpr (.inl u))]
     let R:EvI s c (n:fB) at0 g i (j+1) [eV (.int c),eV (.int (n:fB)),eV (.str lettT),eV (.int at0),eV (.ref g),eV (.int (0+(i:fB))),eV (.str (nm++#[[Y].toArray])),eV (.int (0+(j:fB))),eV (.int ((0+(j:fB))*(c / 64 % 5)+(0+(i:fB))*d))] s:=#[fR,_,_,_,fR,a.app (ua aeh B),l.app (Ab.mpr (.inr B))]
     refine#[_,fR,_,_,fR,fR,_,fR,iteB (λ_=>?_) (λ_=>?_)];refine#[_,fR,_,_,fR,fR,(show CDiv _ 7040 from#[by decide,by decide]),_,fR,_,_,fR,fR,_,_,fR,fR,(show(0:fB)<3 by decide),fR,_,fR,iteB (λ_=>?_) (λ_=>?_)];exact#[_,fR,_,fR,_,_,fR,fR,(show CDiv _ 320 from#[by decide,by decide]),_,fR,_,_,fR,fR,_,_,fR,fR,(show(0:fB)<10 by decide),figT,_,Y,fR,fR,T,W,nm,_,fR,fR,jt (by show nm.length+1<=1000;lia),R];exact#[_,fR,_,fR,_,fR,_,_,fR,fR,(show CDiv _ 320 from#[by decide,by decide]),_,fR,_,_,fR,fR,_,_,fR,fR,(show(0:fB)<22 by decide),lettT,_,X,fR,fR,D,y,nm,_,fR,fR,jt (by show nm.length+1<=1000;lia),L]
     exact#[_,fR,_,fR,_,fR,_,_,fR,fR,(show CDiv _ 320 from#[by decide,by decide]),_,fR,_,_,fR,fR,_,_,fR,fR,(show(0:fB)<22 by decide),lettT,_,X,fR,fR,D,y,nm,_,fR,fR,jt (by show nm.length+1<=1000;lia),L]
   rintro σ s ⟨rfl,nm,z,t,rfl,a,l⟩;exists _,fR,(.inl #[fR,_,SqL.of e]),_,fR,g,ns.map V.str,_,fR,fR,e,jf (by rw[Ad];lia);exists c,at0,ns++[nm],_,_,_,_,fR,?_,?_,?_;exact λb o hb=>by rw[fh (gc hb G)];exact S b o hb
   . rw[ad,Ax];rfl
   . rw[Aj,Av];lia
   intro x r;rcases Ab.mp r with r|r;exact p x r;rw[Ae.mp r];exact#[a.mono (by lia),acm l]
 rintro σ I ⟨c,at0,ns,O,N,z,t,rfl,S,e,U,p⟩;exact#[_,fR,q g ns _ S e (by lia) p]
theorem a4u{q:eZ Key×V}(h:q∈a):(valV a q.1).isSome=eX:=by
 rw[<- ko];exact AV.mpr #[q,h,by simp]
theorem a8c(U:UkT g h L):g.any qk=eX↔∃a,Told h L a a:=by
 rw[AV];constructor
 . rintro⟨q,d,f⟩;let(a,b,c):=U.pr q d;let e:a=b:=by
    unfold qk at f;rw[c] at f;let:=fV f;exact BR this
   subst e;let:=a4u d;rw[c] at this;let(l,h1,h2):=(U.iff a a).mp this;rcases h2 with⟨h2,h3⟩|⟨h2,h3⟩
   . exact#[l.1,l,h1,.inl #[fR,h2.symm.trans h3]]
   exact#[l.2,l,h1,.inr #[fR,h2.symm.trans h3]]
 rintro⟨a,i⟩;let:=(U.told a a).mpr i;let(z,hz):=Bd.mp this;let(q,d,e):=As.mp (xu hz);exists q,d;unfold qk;rw[e];exact fU rfl
theorem ixK(h:X.K=K):IxR X (rIxL K):=by subst h;exact xw
abbrev a3n:JA:=ir (top 20) 10
abbrev a5z:JA:=ir (top 20) 11
inductive NeAt_at_(C:IS)(H:Hp)(p:IS)(pl:IS)(hd:IS)(un:IS)(fu:IS)(D:IS):Prop
 |mk (dx fs)(h0:H p=eV (.ins C dx fs))(h1:KFs fs pl hd un fu)(h2:fs.lookup ("not_empty":fS)=eV (.ref D)):NeAt_at_ C H p pl hd un fu D
structure NeAt(C:IS)(H:Hp)(p pl hd un fu D:IS)(ns:eZ fC):Prop where
 at_:NeAt_at_ C H p pl hd un fu D
 lst:H D=eV (.lst (ns.map natV))
theorem NeAt.same(h:NeAt C H p pl hd un a D ns)(e:Same H H'):NeAt C H' p pl hd un a D ns:=by
 let((c,fs,h1,h2,b),h3):=h;exact#[#[c,fs,e _ _ h1,h2,b],e _ _ h3]
def ly(F P:fG)(ns:eZ fC)(n:fC)(r:fJ):Prop:=(∃j∈ns,j≠n/\∃s,P[j]?=eV s/\fq F (place r)=fq F (place s))\/fq F (place r)=fq F "nil"
inductive spSharesS(K:Aa)(C:IS)(vs:eZ V)(H:Hp)(Q:VK):Prop
 |mk (p pl hd un fu D:IS)(F P:fG)(L:fH)(ns:eZ fC)(n:fC)(r:fJ)(h0:vs=[.ref p,.int (n:fB)])(h1:KnS K C H p pl hd un fu F P L)(h2:NeAt C H p pl hd un fu D ns)(h3:ns.length<=15)(h4:(∀j∈ns,j<P.length))(h5:(∀r∈P,PartRow r))(h6:P[n]?=eV r)(h7:∀(b:gQ) H',Same H H'->(b=eX↔ly F P ns n r)->Q (.bl b) H'):spSharesS K C vs H Q
def a01(K:Aa)(C:IS):Sp:=λvs H Q _=>spSharesS K C vs H Q
theorem fL:1<=IR:=by decide
theorem a5l(Cn:Con K mg w)(T:Txt K mg C fI)(F:Fun K "shares_place" "Knowledge.shares_place" a3n f fd)(GA:FnOk P w K mg base CX0 2 gA dA eS (lw C))(cA:eR GA C "alike"):FnOk P w K mg base CX0 3 f fd ["self","number"] (a01 K C):=by
 refine F.okA ["self","number","place","others"] λak A outer s0 H vs Q E hr h nd=>?_;let(p,pl,hd,un,fu,D,Fs,k,L,ns,n,r,rfl,hK,hN,W,Y,Z,hn,q):=h;let ao:=j4 hr;exists _,fc (u7 (i:=2) nd rfl (Or.inr rfl) (fi K (gr K (gh (K:=K) rfl (qv 0)) (qv 1)) dl))
  (fc (pp ["other","self","number"] [0,1] (i:=3) nd rfl (Or.inl rfl) (iq (gh (K:=K) rfl (qv 0))) (λ_ _ _ _=>(qr (fo kc (qv 0) (qv 2) (fm _)))) (λ_ _ _ _=>(fi K (gr K (gh (K:=K) rfl (qv 1)) (qv 0)) dl)))
  (ff (fx (gn (vj rfl) rfl Cn.any Ef (jq (nr ["word","self","place"] [0,2] (iq (fj lc (qv 3) (ie (gw fb)))) (λ_ _ _ _=>m9) (λ_ _ _ _=>(gi (qv 1) T.cl cA.meth GA hr cA.bind .nil gt (fg (qv 2) (fg (qv 0) fb))))) fb)))))
 nofun
 let hp:=Z r (Ar hn);let((hm,uk,hk,hok,hU),c,an):=id hK;let((dx,fs,h1,h2,aj),t):=id hN;let(as,b,ac,ah,hR):=ma c hn;exists _,fR,p,C,dx,fs,.ref pl,fR,h1,T.cl,T.nP,h2.parts,_,fR,pl,_,_,.ref b,fR,fR,SqL.of ac,ah,b,_,1,_,fR,fR,hR,hp.at1;exists _,fR,p,C,dx,fs,.ref D,fR,h1,T.cl,T.nE,aj,D,fR,#[_,SqL.of t];obtain⟨I,R⟩:∃I:V->gQ,I=λv=>match v with|.int i => !decide (V.int i=V.int (n:fB))|_=>eY:=#[_,rfl]
 obtain⟨X,aa⟩:∃X:V->V,X=λv=>match v with|.int i=>.str (place (k.getD i.toNat []))|_=>.non:=#[_,rfl]
 let pv:∀j:fC,I (natV j) = !decide (j=n):=λj=>by
  rw[R];show(!decide (V.int (j:fB)=V.int (n:fB)))=_
  congr 1
  refine decide_eq_decide.mpr #[λz=>?_,λz=>by rw[z]];let:=V.int.inj z
  lia
 let fv:∀j:fC,X (natV j)=.str (place (k.getD j [])):=λj=>by
  rw[aa];show V.str (place (k.getD ((j:fB)).toNat []))=_;rw[Bf]
 refine vr (ns.map natV) I X kj (SqL.of t) (by rw[Ad];exact jt (by lia)) (λx o H2 e2 Q' N=>?_) (λx o _ H2 e2 Q' N=>?_) λDo H1 aq e1 ae=>?_
 . let(j,hj,rfl):=As.mp o;let:=N H2 (Same.refl _);let e:I (natV j) = !decide (V.int (j:fB)=V.int (n:fB)):=by rw[R];rfl
   rw[e] at this;exact#[_,fR,_,fR,fR,_,fR,this]
 . let(j,hj,rfl):=As.mp o;let l:=Y j hj;let G:k[j]?=eV k[j]:=Ah l;let(ap,b2,O,S,af):=ma (c.same e2) G;let:=N H2 (Same.refl _);let e:X (natV j)=.str (place k[j]):=by rw[fv,A7,G];rfl
   rw[e] at this;exact#[_,fR,p,C,dx,fs,.ref pl,fR,e2 _ _ h1,T.cl,T.nP,h2.parts,_,fR,pl,_,_,.ref b2,fR,fR,SqL.of O,S,b2,_,1,_,fR,fR,af,(Z _ (AH l)).at1,this]
 obtain⟨a,d⟩:∃a:fJ,a=(ns.filter λj => !decide (j=n)).map λj=>place (k.getD j []):=#[_,fR]
 let U:H1 Do=eV (.lst (a.map V.str)):=by
  rw[ae,d,Ez,Bu,Bu];rw[show(IM (I∘natV) ns)=ns.filter λj => !decide (j=n) from DV λj _=>pv j]
  congr 2
  exact Cm λj _=>fv j
 let am:a.length<=15:=by
  rw[d,Ad];exact AA (B4 _ _) W
 refine#[_,fR,fL,λl1 ag=>?_];let s2:=fe ag (.lst [.str "nil"]);refine#[Do,l1,_,_,fR,fR,s2 _ _ U,ad,?_,λl2 ai=>#[l2,fR,#[_,SqL.of ad],?_]];rw[Ad];exact jt (show a.length+1<=1000 by lia)
 let s3:=e1.trans (s2.trans (fe ai (.lst (a.map V.str++[.str "nil"]))));let m:(upd (upd H1 l1 (.lst [.str "nil"])) l2 (.lst (a.map V.str++[.str "nil"]))) l2=eV (.lst ((a++[("nil":fS)]).map V.str)):=by rw[ad,Ax];rfl
 generalize upd (upd H1 l1 (.lst [.str "nil"])) l2 (.lst (a.map V.str++[.str "nil"]))=H3 at s3 m |-;refine vg ((a++[("nil":fS)]).map V.str) (a++[("nil":fS)]) (λx=>decide (fq Fs (place r)=fq Fs x)) kj (SqL.of m) (by rw[Ad,Aj,Av];lia) (by rw[Ad]) (λi x y o hy H4 e4 Q' N=>?_) λD4 H4 al e4 ab=>?_
 . obtain rfl:x=.str y:=by
    rw[Ap,hy] at o;exact(Am o).symm
   let J:=s3.trans e4;exists _,fR,p,dx,fs,fR,J _ _ h1,h2.meth "alike" (by decide),_,fR,_,fR,p,pl,hd,un,fu,hm,uk,place r,y,fR,hk.same J;rw[hok.hd,hok.hd];exact N H4 (Same.refl _)
 exists D4,(a++[("nil":fS)]).map (λx=>decide (fq Fs (place r)=fq Fs x)),fR,SqL.of ab;refine q _ H4 (s3.trans e4) ?_;rw[Dj,AV];constructor;rintro⟨x,o,M⟩;let u:=fV M;rcases Ab.mp o with z|z;rw[d] at z;let(j,hj,rfl):=As.mp z;let(g,B):=Bc.mp hj;let l:=Y j g;let G:k[j]?=eV k[j]:=Ah l;refine .inl #[j,g,by simpa using B,_,G,?_];rw[u,A7,G];rfl;rw[Ae.mp z] at u;exact .inr u
 rintro (⟨j,g,B,s,G,M⟩|M);refine#[place s,Ab.mpr (.inl ?_),fU M];rw[d];exact As.mpr #[j,Bc.mpr #[g,by simpa using B],by rw[A7,G];rfl];exact#["nil",Ab.mpr (.inr (Ae.mpr rfl)),fU M]
inductive spEndsTS(K:Aa)(vs:eZ V)(H:Hp)(Q:VK):Prop
 |mk (b:IS)(r:fJ)(h0:vs=[.ref b])(h1:RowAt K H b r)(h2:PartRow r)(h3:∀t H',Same H H'->H' t=eV (.tup [.str (place r),.str (end2 r)])->Q (.ref t) H'):spEndsTS K vs H Q
def a2h(K:Aa):Sp:=λvs H Q _=>spEndsTS K vs H Q
inductive spOpenES(K:Aa)(C:IS)(vs:eZ V)(H:Hp)(Q:VK):Prop
 |mk (p pl hd un fu D:IS)(F P:fG)(L:fH)(Fl ns:eZ fC)(h0:vs=[.ref p])(h1:KnS K C H p pl hd un fu F P L)(h2:NeAt C H p pl hd un fu D ns)(h3:H fu=eV (.dK (fk Fl)))(h4:ns.length<=15)(h5:(∀j∈ns,j<P.length))(h6:(∀r∈P,PartRow r))(h7:(∀H',Same H H'->(∀j∈ns,∀r,P[j]?=eV r->¬ j∈Fl->¬ ly F P ns j r)->Q .non H'))(h8:∀j r t H',Same H H'->j∈ns->P[j]?=eV r->(¬ j∈Fl)->ly F P ns j r->H' t=eV (.tup [.str (place r),.str (end2 r)])->Q (.ref t) H'):spOpenES K C vs H Q
def xg(K:Aa)(C:IS):Sp:=λvs H Q _=>spOpenES K C vs H Q
theorem a9i(F:Fun K "ends_of" "ends_of" um f fd):FnOk P w K mg base CX0 1 f fd ["part"] (a2h K):=by
 refine F.okA ["part"] λj A outer s0 H vs Q E k h _=>?_;let(b,r,rfl,d,hp,q):=h;exists _,(ff (fx (nq (fo gk (fi K (qv 0) dl) gj (fm _)) (ij (ft (fi K (qv 0) dl) (ft (fi K (qv 0) dl) fb))) (ij (ft (fi K (qv 0) dl) (gw fb))))));refine#[_,fR,b,_,0,_,fR,fR,d,hp.at0,fR,_,fR,iteB (λc=>?_) (λc=>?_)]
 . let g:r.getD 0 ""="stretch" := by simpa using c
   obtain⟨x,y,rfl⟩:∃x y,r=[("stretch":fS),x,y]:=by
    rcases hp with⟨a,f,s,rfl⟩|z|⟨a,rfl⟩
    . exact fF g (by show ¬ ("cell":fS)="stretch";decide)
    . exact z
    exact fF g (by show ¬ ("tree":fS)="stretch";decide)
   refine#[_,fR,b,_,1,.str x,fR,fR,d,fR,_,fR,b,_,2,.str y,fR,fR,d,fR,fK,λt i=>?_];exact q t _ (fe i _) ad
 let g:¬ r.getD 0 ""="stretch" := by simpa using c
 refine#[_,fR,b,_,1,_,fR,fR,d,hp.at1,fK,λt i=>?_];let e:end2 r="nil" := by unfold end2;rw[fD g]
 refine q t _ (fe i _) ?_;rw[e];exact ad
theorem ab7{dS:JO}(T:Txt K mg C fI)(F:Fun K "open_ends" "Knowledge.open_ends" a5z f fd)(GE:FnOk P w K mg base CX0 1 gE dE eS (a2h K))(cE:eQ GE "ends_of")(GS:FnOk P w K mg base CX0 3 gS dS eT (a01 K C))(cS:eR GS C "shares_place"):FnOk P w K mg base CX0 4 f fd ["self"] (xg K C):=by
 refine F.okA ["self","number"] λae A outer s0 H vs Q E n h nd=>?_;let(p,pl,hd,un,S,D,U,e,L,Fl,ns,rfl,hK,hN,Y,u,y,M,qn,qt):=h;let X:=j4 n;let aa:=n.mono (j:=1) (by lia);exists _,fc (im A1 rfl (iq (gh (K:=K) rfl (qv 0))) (ip 1 nd) (ff (gg (QW.qt (j6 (ku X (qv 1) (gh (K:=K) rfl (qv 0))) (je (j5 (gi (qv 0) T.cl cS.meth GS n cS.bind .nil gt (fg (qv 1) fb)))))) (ff (fx (gm GE aa cE (ft (gr K (gh (K:=K) rfl (qv 0)) (qv 1)) fb)))) gd)))
  (ff (fx gu))
 nofun
 let((R,fs,h1,h2,ac),hD):=id hN;exists _,fR,p,C,R,fs,.ref D,fR,h1,T.cl,T.nE,ac,D,fR,#[_,SqL.of hD];refine jj (xs:=ns.map natV) (λi σ o=>Same H o/\(∀j∈ns.take i,∀r,e[j]?=eV r->¬ j∈Fl->¬ ly U e ns j r)/\∃J:fA V,σ=[eV (.ref p),J])
  #[Same.refl _,(λj N=>by simp at N),eW,fR] (λi σ o _ pv=>SqL.of (pv.1 _ _ hD)) ?_ ?_
 . rintro i x σ o hx ⟨a,d,J,rfl⟩
   nofun
   let m:i<ns.length:=by let:=(Ao.mp hx).1;rw[Ad] at this;exact this
   obtain rfl:x=.int ((ns[i]:fC):fB):=by
    rw[Ap,Ah m] at hx;exact(Am hx).symm
   let s:=AH m;let v:=y _ s;let W:e[ns[i]]?=eV e[ns[i]]:=Ah v;let et:ns.take (i+1)=ns.take i++[ns[i]]:=by rw[AL,Ah m];rfl
   let I:∀G,Same H G->(¬ ns[i]∈Fl->¬ ly U e ns ns[i] e[ns[i]])->(Same H G/\(∀j∈ns.take (i+1),∀r,e[j]?=eV r->¬ j∈Fl->¬ ly U e ns j r)/\∃J:fA V,[eV (V.ref p),eV (.int ((ns[i]:fC):fB))]=[eV (.ref p),J]):=λG O h=>by
    refine#[O,λj N r n hf=>?_,_,fR];rw[et] at N;rcases Ab.mp N with z|z;exact d j z r n hf;let ej:=Ae.mp z;subst ej;rw[W] at n;cases n;exact h hf
   let g:=DGet.k (k:=Sum.inl ((ns[i]:fC):fB)) (a _ _ Y);exists _,fR,_,fR,p,C,R,fs,.ref S,fR,a _ _ h1,T.cl,T.nF,h2.fulls,S,_,fR,g,_,rfl;rw[ro];refine iteB (λc=>?_) (λc=>?_)
   . let Z:¬ ns[i]∈Fl:=by simpa using c
     refine#[_,fR,p,R,fs,fR,a _ _ h1,h2.meth "shares_place" (by decide),_,fR,p,pl,hd,un,S,D,U,e,L,ns,ns[i],_,fR,hK.same a,hN.same a,u,y,M,W,λb G O hb=>#[b,fR,iteB (λcb=>?_) (λcb=>I G (a.trans O) λ_ z=>by let:=hb.mpr z;rw[cb] at this;cases this)]];let l:=a.trans O;let(af,b4,q,B,ab):=ma (hK.parts.same l) W;exact#[_,fR,p,C,R,fs,.ref pl,fR,l _ _ h1,T.cl,T.nP,h2.parts,_,fR,pl,_,_,.ref b4,fR,fR,SqL.of q,B,b4,_,fR,ab,M _ (AH v),λt H4 e4 hT=>qt ns[i] _ t H4 (l.trans e4) s W Z (hb.mp cb) hT]
   let Z:ns[i]∈Fl:=by simpa using c
   exact I o a λz=>fF Z z
 rintro σ o ⟨a,d,J,rfl⟩;rw[Ad,AW] at d;exact qn o a d
def neOf(F P:fG):eZ fC:=(Bb P.length).filter λn => !oj P (fq F) n
theorem kh(h:P[j]?=eV r):j∈neOf F P↔¬ ks r (fq F) []:=by
 unfold neOf;rw[Bc];constructor;rintro⟨_,h2⟩ a;let:=emptyB_iff.mpr #[r,h,a];rw[this] at h2;cases h2
 intro hn;exists Br.mpr (Ao.mp h).1;cases hz:oj P (fq F) j with
 |false=>rfl
 |true =>
  let(r',h1,h2):=emptyB_iff.mp hz;rw[h] at h1;cases h1;exact fF h2 hn
end K37
namespace Ka
open PySem PyProof.Rows
end Ka
namespace Ka
open PySem
theorem plain_loop:plainId "dict.update.loop"=eX:=by decide
theorem entry_loop:entryFor table "dict.update.loop"=eV Builtin.«dict.update.loop» := entryFor_of_fast (by kernel_rfl)
end Ka
namespace L2
open PyProof.Rows
def kk(kv:fS×V):Key×V:=(Sum.inr kv.1,kv.2)
section
variable{kvs:eZ (fS×V)} in
variable{a:IS} in
end
theorem ac9(c:u.heap.IsTupleIter j q k)(h:u.heap.IsTuple q vals)(n:vals[k]?=eV v)(d:∀g,g.IsTupleIter j q (k+1)->BE j u.heap g->R v {u with heap:=g}):IU (IV prog w) A (BC (.ref j)) R E u:=by
 let(o,b,e,a):=id c;let(p,i,r,m,l):=h;let ty:=c.typeIs;unfold BC;refine Ac (Bt ty Cz (Bn Cz ty EN ?_ (EH _)));show IU (IV prog w) _ (field (.ref j) 0>>=_) _ _ u;refine Ac (Bs b a (x:=.ref q) rfl ?_);let nn:¬ (Value.ref q==Value.none)=eX:=Aw;show IU (IV prog w) _ (if(Value.ref q==Value.none)=eX then _ else _) _ _ u;rw[fD nn];show IU (IV prog w) _ (field (.ref j) 1>>=_) _ _ u;refine Ac (Bs b a (x:=.int k 0) rfl ?_);show IU (IV prog w) _ (seqItems? (.ref q)>>=_) _ _ u;refine Ac (BX i l ?_);simp only[Bf,n];let kept:∀f:fY IT->fY IT,(u.heap.update j (EV f)).get? j=eV (EV f o):=λf=>BG _ b (Ed (CU a _));refine Ac (EF b a (by simp) (Al #[v,fR,Al (d _ #[_,kept _,?_,?_] (Ck ..))]));rw[Ff];exact e;rw[CU a];simp[JU]
theorem a6a(f:A.handled=eW)(d:u.heap.IsTupleIter j q k)(i:u.heap.IsTuple q vals)(r:vals[k]?=eW)(h:∀g e,FM j u.heap g->(∃o,g.get? e=eV o/\o.cls=.type "StopIteration")->E (.ref e) {u with heap:=g}):IU (IV prog w) A (BC (.ref j)) R E u:=by
 let(o,b,s,c):=id d;let(p,l,t,m,n):=i;let ty:=d.typeIs;unfold BC;refine Ac (Bt ty Cz (Bn Cz ty EN ?_ (EH _)));show IU (IV prog w) _ (field (.ref j) 0>>=_) _ _ u;refine Ac (Bs b c (x:=.ref q) rfl ?_);let nn:¬ (Value.ref q==Value.none)=eX:=Aw;show IU (IV prog w) _ (if(Value.ref q==Value.none)=eX then _ else _) _ _ u;rw[fD nn];show IU (IV prog w) _ (field (.ref j) 1>>=_) _ _ u;refine Ac (Bs b c (x:=.int k 0) rfl ?_);show IU (IV prog w) _ (seqItems? (.ref q)>>=_) _ _ u;refine Ac (BX l n ?_);simp only[Bf,r];refine Ac (CQ (Ac (EF b c (by simp) ?_)));show IU (IV prog w) _ (newExc (.type "StopIteration") []>>=_) _ _ _;refine Ac ?_;unfold newExc newTuple;refine Ac (AX ?_ (by size_fits));refine Ac (m:=firstArgMember _ _) (FI (a:=Value.none) (by simp only[firstArgMember];rfl) (AX ?_ (by size_fits)));refine GV ?_ ?_;exact f;exact h _ _ (((Ck ..).extBut.push _).push _) #[_,Ay _ rfl,fR]
theorem a8d(D:ZipApart z h to j k q s)(g1:IsZip u.heap z h to .none)(Z:JX u.heap h (.ref j) (.ref k))(g3:JX u.heap to a b)(t1:u.heap.IsTupleIter j q k1)(t2:u.heap.IsTupleIter k s k2)(v1:u.heap.IsTuple q xs)(v2:u.heap.IsTuple s ys)(hx:xs[k1]?=eV x)(O:ys[k2]?=eV y)(hR:∀g,IsZip g z h to (JU u.heap.objs.size)->JX g to x y->g.IsTupleIter j q (k1+1)->g.IsTupleIter k s (k2+1)->JX g u.heap.objs.size x y->
 (∀c o,c≠z->c≠to->c≠j->c≠k->u.heap.get? c=eV o->g.get? c=eV o)->R (eV (.ref u.heap.objs.size)) {u with heap:=g}):IU (IV prog w) A (JM (.ref z)) R E u:=by
 let ty:u.TypeIs (.ref z) "zip" := #[_,g1,fR]
 unfold JM;refine Ac (CP (Bt ty E3 (Bn E3 ty HM ?_ (HC _))));show IU (IV prog w) _ (field (.ref z) 2>>=_) _ _ u;refine Ac (Bs g1 rfl (x:=.bool eY) rfl ?_);show IU (IV prog w) _ (field (.ref z) 3>>=_) _ _ u;refine Ac (Bs g1 rfl (x:=.ref h) rfl (Ac (BX Z rfl ?_)));show IU (IV prog w) _ (Bl (.ref z)>>=_) _ _ u;refine Ac ?_;unfold Bl;refine Ac (Bs g1 rfl (x:=.none) rfl (Al ?_));simp only[if_true];refine Ac (CQ (Ac (Bs g1 rfl (x:=.ref to) rfl (Ac (Bi g1 (by simp) λm1 y1 i=>?_)))));let z1:IsZip m1 z h to .ellipsis:=y1;refine Ac ?_;simp only[HN,Ii,Ij,Ip];refine Ac (Ac (Gx ?_));show IU (IV prog w) _ (BC (.ref j)>>=_) _ _ _;refine Ac (ac9 (t1.extBut i.extBut D.i1z) (v1.extBut i.extBut D.l1z) hx λm2 y2 m=>Al ?_);let B:JX m2 to a b:=m.extBut _ _ D.TOi1 (i.extBut _ _ D.TOz g3);refine Ac (BX B rfl (Ac (Gu B λm3 y3 l=>Ac (wpAny_letGo (Al ?_)))));let T:JX m3 to x b:=y3;refine Ac (Ac (Gx ?_));show IU (IV prog w) _ (BC (.ref k)>>=_) _ _ _;let X:=((t2.extBut i.extBut D.i2z).extBut m.extBut D.i12.symm).extBut l.extBut D.TOi2.symm;let U:=((v2.extBut i.extBut D.l2z).extBut m.extBut D.l2i1).extBut l.extBut D.l2TO;refine Ac (ac9 X U O λm4 y4 p=>Al ?_);let I:JX m4 to x b:=p.extBut _ _ D.TOi2 T;refine Ac (BX I rfl (Ac (Gu I λd W n=>Ac (wpAny_letGo (Al (Al ?_))))));let H:JX d to x y:=W;refine Ac (BX H rfl (Ac (wpAny_newTuple ?_)));let sz:d.objs.size=u.heap.objs.size:=by rw[n.1,p.1,l.1,m.1,i.1]
 let G:IsZip d z h to .ellipsis:=n.extBut _ _ D.TOz.symm (p.extBut _ _ D.i2z.symm (l.extBut _ _ D.TOz.symm (m.extBut _ _ D.i1z.symm z1)));let kp:∀c o,c≠z->c≠to->c≠j->c≠k->u.heap.get? c=eV o->d.get? c=eV o:=λc o n1 n2 t v e=>n.extBut _ _ n2 (p.extBut _ _ v (l.extBut _ _ n2 (m.extBut _ _ t (i.extBut _ _ n1 e))));let p1:d.IsTupleIter j q (k1+1):=((y2.extBut l.extBut D.TOi1.symm).extBut p.extBut D.i12).extBut n.extBut D.TOi1.symm;let Q:d.IsTupleIter k s (k2+1):=y4.extBut n.extBut D.TOi2.symm;show IU (IV prog w) _ (DO (.ref z) (.ref d.objs.size)>>=_) _ _ _;refine Ac ?_;unfold DO;let S:IsZip (d.push {cls:=.type "tuple",data:=.seq [x,y].toArray}) z h to .ellipsis:=Ai _ G;refine Ac (Bi S (by simp) λm7 y7 J=>?_);let P:IsZip m7 z h to (JU d.objs.size):=y7;refine Bi P (by simp) λr Y N=>?_;let L:IsZip r z h to (JU d.objs.size):=Y;let f:∀c o,c≠z->d.get? c=eV o->r.get? c=eV o:=λc o n1 e=>N.extBut _ _ n1 (J.extBut _ _ n1 (Ai _ e));let M:d.objs.size≠z:=BQ (Az G);let C:JX r d.objs.size x y:=N.extBut _ _ M (J.extBut _ _ M (Ay _ rfl));rw[sz] at L C;refine Al #[_,fR,Al ?_];show R (eV (.ref d.objs.size)) _;rw[sz];exact hR r L (f _ _ D.TOz H) (p1.at λo e=>f _ o D.i1z e) (Q.at λo e=>f _ o D.i2z e) C λc o n1 n2 t v e=>f c o n1 (kp c o n1 n2 t v e)
theorem a8o(y:A.handled=eW)(D:ZipApart z a to d G k N)(g1:IsZip u.heap z a to .none)(r:JX u.heap a (.ref d) (.ref G))(L:u.heap.IsTupleIter d k k1)(n:u.heap.IsTuple k xs)(p:xs[k1]?=eW)(v:∀g,(∀c o,c≠z->c≠d->u.heap.get? c=eV o->g.get? c=eV o)->R eW {u with heap:=g}):IU (IV prog w) A (JM (.ref z)) R E u:=by
 let ty:u.TypeIs (.ref z) "zip" := #[_,g1,fR]
 unfold JM;refine Ac (CP (Bt ty E3 (Bn E3 ty HM ?_ (HC _))));show IU (IV prog w) _ (field (.ref z) 2>>=_) _ _ u;refine Ac (Bs g1 rfl (x:=.bool eY) rfl ?_);show IU (IV prog w) _ (field (.ref z) 3>>=_) _ _ u;refine Ac (Bs g1 rfl (x:=.ref a) rfl (Ac (BX r rfl ?_)));show IU (IV prog w) _ (Bl (.ref z)>>=_) _ _ u;refine Ac ?_;unfold Bl;refine Ac (Bs g1 rfl (x:=.none) rfl (Al ?_));simp only[if_true];refine Ac (CQ (Ac (Bs g1 rfl (x:=.ref to) rfl (Ac (Bi g1 (by simp) λs B f=>?_)))));let I:IsZip s z a to .ellipsis:=B;refine Ac ?_;simp only[HN,Ii,Ij,Ip];refine Ac (Ac (Gx ?_));show IU (IV prog w) _ (BC (.ref d)>>=_) _ _ _;refine Ac (a6a y (L.extBut f.extBut D.i1z) (n.extBut f.extBut D.l1z) p λt e j H=>?_);let(M,h,l):=H;let m:IsZip t z a to .ellipsis:=j _ _ D.i1z.symm I;let ne:e≠z:=λq=>by
  subst q;rw[m] at h;cases h;simp at l
 refine Bi m (by simp) λC _ i=>?_;refine Ac (Ds (T := "StopIteration") (b:=eX) #[M,i.extBut _ _ ne h,l] EC ?_);exact Al (v C λc o n1 J q=>i.extBut _ _ n1 (j _ _ J (f.extBut _ _ n1 q)))
def Ity(K:Aa)(l1 l2:IS):It where
 go:=λi H=>∃xs ys x y,SqT K H l1 xs/\SqT K H l2 ys/\xs[i]?=eV x/\ys[i]?=eV y
 yld:=λi H v H'=>∃x y p,(∀xs,SqT K H l1 xs->xs[i]?=eV x)/\(∀ys,SqT K H l2 ys->ys[i]?=eV y)/\H p=eW/\H'=upd H p (.tup [x,y])/\v=.ref p
 stop:=λi H=>∃xs ys,SqT K H l1 xs/\SqT K H l2 ys/\xs.length<=i
theorem zy(I:Inv X a σ H s)(h:SqT X.K H l xs)(f:FpOk X a H l):False:=by
 rcases h with (q|⟨o,q⟩)|⟨o,its,n,q,_⟩
 . rw[f.1] at q;cases q
 . rw[f.1] at q;cases q
 let e:=I.ok.mod.kin _ _ q;rcases f.2.2.2.1 with z|z;exact I.ok.noex l o e z;exact fF (AD (Az e) (AA I.ok.bsz z)) (AZ _)
def abi(n l1 l2:IS)(i:fC)(h:JG):Prop:=IsZip h (n+4) (n+2) (n+3) .none/\JX h (n+2) (.ref n) (.ref (n+1))/\(∃a b,JX h (n+3) a b)/\h.IsTupleIter n l1 i/\h.IsTupleIter (n+1) l2 i
theorem a6y{K:Aa}{x1}(n C G:IS):Turn P w K (.Tuple aa x1 pos) (Ity K C G) (jz n) (n+4) (abi n C G) where
 mem:=by simp[jz]
 obj:=λi h st b d=>by
  let(hz,f,(a,c,g),(o1,e1,c1,d1),(o2,e2,c2,d2)):=st;unfold jz at d;simp only[Ak,Aq,gD] at d;rcases d with rfl|rfl|rfl|rfl|rfl;exact#[_,hz,λv z=>by cases z];exact#[_,f,λv z=>by cases z];exact#[_,g,λv z=>by cases z];exact#[o1,e1,λv z=>by rw[d1] at z;cases z];exact#[o2,e2,λv z=>by rw[d2] at z;cases z]
 keep:=λi h h' st k=>by
  let(hz,f,(a,c,g),h1,h2):=st;exact#[k _ (by simp[jz]) _ hz,k _ (by simp[jz]) _ f,#[a,c,k _ (by simp[jz]) _ g],h1.at λo e=>k _ (by simp[jz]) o e,h2.at λo e=>k _ (by simp[jz]) o e]
 item:=by
  intro X U Q T hc i j s σ H E I r st R;subst U Q T;let(hz,f,(a,c,g),h1,h2):=st;let(xs,ys,x,y,B,F,hx,hy):=R;let(m,r1,O,_):=I.tuple B;let(M,r2,L2,_):=I.tuple F;let(u,hu,ru):=r1.get hx;let(v,hv,rv):=r2.get hy;let D:ZipApart (n+4) (n+2) (n+3) n (n+1) C G:=v6 (λz=>zy I B (r _ z)) (λz=>zy I F (r _ z));refine a8d D hz f g h1 h2 (show s.heap.IsTuple C m.toArray from O) (show s.heap.IsTuple G M.toArray from L2) (x:=u) (y:=v) (by simpa using hu) (by simpa using hv) λh' a1 a2 a3 a4 a5 N=>?_;let I1:Inv X j σ H {s with heap:=h'}:=I.turnedL (ch:=jz n) (t':=s.toks) (λb o d e=>by
   unfold jz at d;simp only[Ak,Aq,gD,not_or] at d;exact N b o d.1 d.2.2.1 d.2.2.2.1 d.2.2.2.2 e) r
  refine#[.ref s.heap.objs.size,fR,wpAny_letOwnedTupleGo_zip a1 λJ Y l=>?_];let I2:Inv X j σ H {s with heap:=J}:=I1.turnedL (s:={s with heap:=h'}) (ch:=jz n) (t':=s.toks) (λb o d e=>by
   unfold jz at d;simp only[Ak,Aq,gD,not_or] at d;exact l.extBut _ _ d.1 e) r
  let fresh:H s.heap.objs.size=eW:=I.hok.fresh (An _);let pz:s.heap.objs.size≠n+4:=BQ (Az hz);let I3:Inv X j σ (upd H s.heap.objs.size (.tup [x,y])) {s with heap:=J}:=by
   refine I2.track fresh ?_ (BQ I.lt) (λz c' e t=>?_) (λp hp t=>?_) ?_
   . cases q:X.s₀.heap.get? s.heap.objs.size with|none=>rfl|some o=>exact fF (AD (Az q) I.sz) (AZ _)
   . let(v',q):=I.cell z c' e;exact fF (t ▸ q.lt) (AZ _)
   . exact fF (t ▸ Az (I.pin p hp).1) (AZ _)
   exact#[by show 2<=IR;decide,[u,v],.cons ru (.cons rv .nil),#[_,l.extBut _ _ pz a5,fR,_,fR]]
  let S:∀b∈jz n,b≠s.heap.objs.size:=λb d e=>by
   let Z:∃o,s.heap.get? b=eV o:=by
    unfold jz at d;simp only[Ak,Aq,gD] at d;let(o1,g1,_):=h1;let(o2,g2,_):=h2;rcases d with rfl|rfl|rfl|rfl|rfl;exact#[_,hz];exact#[_,f];exact#[_,g];exact#[_,g1];exact#[_,g2]
   let(o,Z):=Z;exact fF (e ▸ Az Z) (AZ _)
  let L:JX h' (n+2) (.ref n) (.ref (n+1)):=N _ _ D.TIz D.TITO D.TIi1 D.TIi2 f;refine#[.ref s.heap.objs.size,_,I3,fR,#[x,y,_,λzs A=>by rw[I.tuple_inj A B];exact hx,λzs A=>by rw[I.tuple_inj A F];exact hy,fresh,fR,fR],#[Y,l.extBut _ _ D.TIz L,#[_,_,l.extBut _ _ D.TOz a2],a3.extBut l.extBut D.i1z,a4.extBut l.extBut D.i2z],λb d=>?_];rw[fh (S b d)];exact(r b d).1
 done:=by
  intro X U Q T hc i j s σ H E I r st R;subst U Q T;let(hz,f,(a,c,g),h1,h2):=st;let(xs,ys,B,F,hl):=R;let(m,r1,O,_):=I.tuple B;let ab:=r1.length;let D:ZipApart (n+4) (n+2) (n+3) n (n+1) C G:=v6 (λz=>zy I B (r _ z)) (λz=>zy I F (r _ z));refine a8o (I.ok.hd hc) D hz f h1 (show s.heap.IsTuple C m.toArray from O) (by rw[Dh,BP (by lia)]) λh' N=>#[fR,I.turnedL (ch:=jz n) (t':=s.toks) (λb o d e=>?_) r]
  unfold jz at d;simp only[Ak,Aq,gD,not_or] at d;exact N b o d.1 d.2.2.2.1 e
 self:=λ_ _ _ _ _ st h=>HP st.1 h
theorem a7o(a b:IS)(xs ys:fY IT):Meets (Builtin.«zip.__new__» #[[.type "zip",.ref a,.ref b],[]]) (λ_ R s=>s.heap.IsTuple a xs/\s.heap.IsTuple b ys/\
 R (.ok (.ret (.ref (s.heap.objs.size+4)))) {s with heap:=((((s.heap.push {cls:=.type "tuple_iterator",data:=.fields [.ref a,.int 0 0].toArray}).push {cls:=.type "tuple_iterator",data:=.fields [.ref b,.int 0 0].toArray}).push {cls:=.type "tuple",data:=.seq [.ref s.heap.objs.size,.ref (s.heap.objs.size+1)].toArray}).push {cls:=.type "tuple",data:=.seq [.none,.none].toArray}).push {cls:=.type "zip",data:=.fields [.none,.bool eY,.bool eY,.ref (s.heap.objs.size+2),.ref (s.heap.objs.size+3)].toArray}}) :=
 .of_wp λprog w A R s h=>by
  let(m,g,d,tk,os):=s;let(c,j,h):=h;let sub:=sub_zip;let i:IH (IP #[m,g,d,tk,os]) a xs:=c;let f:IH (IP #[m.push {cls:=.type "tuple_iterator",data:=.fields [.ref a,.int 0 0].toArray},g,d,tk,os]) b ys:=by
   let(o,e,r):=j;exact#[o,Ai _ e,r]
  let k:(m.push {cls:=.type "tuple_iterator",data:=.fields [.ref a,.int 0 0].toArray}).objs.size=m.objs.size+1:=B1 ..
  wp_walk using EK i,EK f
  exists _,rfl;simp only[B1];exact h
def ac8(K:Aa)(ta:TA):TI:=fun σ H R=>ta σ H λvs H1=>∃l1 l2 xs ys,vs=[.ref l1,.ref l2]/\SqT K H1 l1 xs/\SqT K H1 l2 ys/\R (Ity K l1 l2) H1
theorem ae6{x1}(M:Gl X "zip")(hm:X.mg "zip"=eW)(S:PA X [a,b] L)(N:IW [a,b] X.env=[(eY,eval a X.env),(eY,eval b X.env)])(t:IW [b] X.env=[(eY,eval b X.env)]):
 PI X (.Tuple E x1 D) (.Call (.Name "zip" p) [a,b] [] pos) (ac8 X.K L):=by
 intro u s σ H R I h;refine Call_ (rj I M hm boot_zip (BY (thn (S pos u s σ H _ I h) λus s1 #[vs,G,y,r1,z]=>?_) (by rw[N,t]) (by rw[t];rfl)));let(w,v,xs,ys,e,z,T,q):=z;subst e;cases r1 with
 |cons r rr =>
  cases rr with
  |cons r' rr =>
   cases rr;cases r;cases r';let(l,U,P,_):=y.tuple z;let(n,W,Q,_):=y.tuple T;let T1:s1.heap.IsTuple w l.toArray:=P;let J:s1.heap.IsTuple v n.toArray:=Q;refine callType_new F.called_zip (by decide) (F.typeCall_zip_2 _ _) (F.newCall_zip_2 _ _) (λobj=>F.args_object_init_3 obj _ _) F.entry_zip_new (a7o w v l.toArray n.toArray) #[T1,J,?_];let k:∀(m:JG) (o:Obj),(m.push o).objs.size=m.objs.size+1:=λm o=>B1 ..;let O:∀b o,s1.heap.get? b=eV o->∀c d g i j,(((((s1.heap.push c).push d).push g).push i).push j).get? b=eV o:=λb o e c d g i j=>Ai _ (Ai _ (Ai _ (Ai _ (Ai _ e))));let at0:∀c d g i j:Obj,c.isFreed=eY->(((((s1.heap.push c).push d).push g).push i).push j).get? s1.heap.objs.size=eV c:=λc d g i j f=>Ai _ (Ai _ (Ai _ (Ai _ (Ay _ f))));let at1:∀c d g i j:Obj,d.isFreed=eY->(((((s1.heap.push c).push d).push g).push i).push j).get? (s1.heap.objs.size+1)=eV d:=λc d g i j f=>by rw[<- k s1.heap c];exact Ai _ (Ai _ (Ai _ (Ay _ f)))
   let at2:∀c d g i j:Obj,g.isFreed=eY->(((((s1.heap.push c).push d).push g).push i).push j).get? (s1.heap.objs.size+2)=eV g:=λc d g i j f=>by
    let e:s1.heap.objs.size+2=((s1.heap.push c).push d).objs.size:=by rw[k,k]
    rw[e];exact Ai _ (Ai _ (Ay _ f))
   let C:∀c d g i j:Obj,i.isFreed=eY->(((((s1.heap.push c).push d).push g).push i).push j).get? (s1.heap.objs.size+3)=eV i:=λc d g i j f=>by
    let e:s1.heap.objs.size+3=(((s1.heap.push c).push d).push g).objs.size:=by rw[k,k,k]
    rw[e];exact Ai _ (Ay _ f)
   let B:∀c d g i j:Obj,j.isFreed=eY->(((((s1.heap.push c).push d).push g).push i).push j).get? (s1.heap.objs.size+4)=eV j:=λc d g i j f=>by
    let e:s1.heap.objs.size+4=((((s1.heap.push c).push d).push g).push i).objs.size:=by rw[k,k,k,k]
    rw[e];exact Ay _ f
   let g1:=B {cls:=.type "tuple_iterator",data:=.fields [.ref w,.int 0 0].toArray} {cls:=.type "tuple_iterator",data:=.fields [.ref v,.int 0 0].toArray} {cls:=.type "tuple",data:=.seq [.ref s1.heap.objs.size,.ref (s1.heap.objs.size+1)].toArray} {cls:=.type "tuple",data:=.seq [.none,.none].toArray} {cls:=.type "zip",data:=.fields [.none,.bool eY,.bool eY,.ref (s1.heap.objs.size+2),.ref (s1.heap.objs.size+3)].toArray} rfl;exists #[_,g1,fR];refine HP (s:={s1 with heap:=_}) g1 ?_;refine#[s1.heap.objs.size+4,jz s1.heap.objs.size,abi s1.heap.objs.size w v,Ity X.K w v,G,fR,y.kept (t':=s1.toks) λb o e=>O b o e _ _ _ _ _,a6y _ _ _,#[g1,at2 _ _ _ _ _ rfl,#[_,_,C _ _ _ _ _ rfl],#[_,at0 _ _ _ _ _ rfl,fR,fR],#[_,at1 _ _ _ _ _ rfl,fR,fR]],λb A=>?_,q];let x:s1.heap.objs.size<=b:=by
    unfold jz at A;simp only[Ak,Aq,gD] at A;rcases A with rfl|rfl|rfl|rfl|rfl;exact Cb _ 4;exact Cb _ 2;exact Cb _ 3;exact An _;exact Cb _ 1
   exact y.fpOk (H':=G) x (y.hok.fresh x)
theorem adj{x1}(f:Gl X "zip")(hm:X.mg "zip"=eW)(i:QA X [a,b] g)(h:autoParam (IW [a,b] X.env=[(eY,eval a X.env),(eY,eval b X.env)]) a4_)(c:autoParam (IW [b] X.env=[(eY,eval b X.env)]) a4_):
 QI X (.Tuple e x1 d) (.Call (.Name "zip" p) [a,b] [] pos) (ac8 X.K g):=#[ae6 f hm i.run h c]
theorem aa3{K:Aa}{g:TG}{n:TS}{D:Ends}(Pv:fC->St->Hp->Prop)(q:Pv 0 σ H)(hl:∀i σ H,Pv i σ H->SqT K H f xs/\SqT K H c ys)(r:xs.length=ys.length)(v:∀i x y σ H p,xs[i]?=eV x->ys[i]?=eV y->Pv i σ H->H p=eW->let N:=Pv (i+1);g (.ref p) σ (upd H p (.tup [x,y])) λk d=>n {D with nx:=N,ct:=N,bk:=D.nx} k d)(hd:∀σ H,Pv xs.length σ H->D.nx σ H):
 ∃W:fC->fC->St->Hp->Prop,(∃m,W 0 m σ H)/\∀i m σ H,W i m σ H->
  ((Ity K f c).stop i H/\D.nx σ H)\/((Ity K f c).go i H/\∃N:St->Hp->Prop,(∀j H',N j H'->∃o,o<m/\W (i+1) o j H')/\∀x H',(Ity K f c).yld i H x H'->g x σ H' λk d=>n {D with nx:=N,ct:=N,bk:=D.nx} k d):=by
 exists λi m σ H=>m=xs.length-i/\i<=xs.length/\Pv i σ H,#[xs.length,by simp,AF _,q];rintro i m σ H ⟨rfl,hi,p⟩;let(h,b):=hl i σ H p;by_cases a:i<xs.length;refine .inr #[#[xs,ys,xs[i],ys[i],h,b,by simp[a],by simp[show i<ys.length by lia]],Pv (i+1),λj H' l=>#[xs.length-(i+1),by lia,fR,a,l],λx H' y=>?_];let(s,t,l,g1,u,hn,rfl,rfl):=y;exact v i s t σ H l (g1 _ h) (u _ b) p hn
 let e:i=xs.length:=by lia
 subst e;exact .inl #[#[xs,ys,h,b,An _],hd σ H p]
end L2
namespace Ke
open PySem PyProof.Rows
theorem ado:typeLookup (.type "enumerate") "keys"=pure eW:=by rw[DD,Cu];kernel_rfl
theorem ag1:typeLookup (.type "enumerate") "__getattr__"=pure eW:=by rw[DD,Cu];kernel_rfl
theorem a3a:isSubtype (.type "AttributeError") (.type "AttributeError")=pure eX:=by rw[E8];kernel_rfl
theorem zi:entryFor table "enumerate.__getattribute__"=eV Builtin.«object.__getattribute__» := FV (id' := "object.__getattribute__") (by kernel_rfl) (by first|rfl|decide) (by decide) (by kernel_rfl)
set_option maxHeartbeats 16000000 in
theorem ag0{os:OsState}(p:A.handled=eW)(o:h.get? a=eV {cls:=.type "enumerate",dict:=eW,data:=.fields xs,slots:=y})(r:∀h' e t',(∀b u,h.get? b=eV u->h'.get? b=eV u)->(∃c,h'.get? e=eV c/\c.cls=.type "AttributeError")->h.objs.size<=h'.objs.size->E (.ref e) #[h',g,d,t',os]):
 IU (IV prog w) A (Builtin.«object.__getattribute__» #[[.ref a,.str "keys" tk],[]]) Q E #[h,g,d,t,os]:=by
 let s:(#[h,g,d,t,os]:IX).TypeIs (.ref a) "enumerate" := #[_,o,fR]
 let z:=ado
 repeat (any_goals (first|assumption|wp_step))
 let hm:(BI (toString "'" ++ toString ((Iq "enumerate").elim "enumerate" λx=>x.tpName)++toString "' object has no attribute '")++BI "keys" ++ BI "'").length<=IR:=by decide
 generalize (BI (toString "'" ++ toString ((Iq "enumerate").elim "enumerate" λx=>x.tpName)++toString "' object has no attribute '")++BI "keys" ++ BI "'")=m at hm |-;unfold raiseAttrError
 repeat (any_goals (first|assumption|wp_step))
 let v:isSubtype (.type "AttributeError") (.type "AttributeError")=pure eX:=a3a;dsimp only
 repeat (any_goals (first|assumption|wp_step))
 generalize hO:({cls:=Value.type "AttributeError",data:=_}:Obj)=c;generalize hT2:({cls:=Value.type "tuple",data:=Data.seq [Value.str m t].toArray}:Obj)=k;let i:c.cls=.type "AttributeError" := by rw[<- hO]
 let f:∃vs,c.data=.fields vs:=#[_,by rw[<- hO]]
 let(vs,j):=f;let q:((h.push k).push c).get? (h.push k).objs.size=eV c:=Ay _ (by rw[<- hO];rfl);refine GV p (r _ _ _ (λb u n=>?_) #[_,BG _ q (Ed (CU j _)),(Ff ..).trans i] ?_);let l:=Az (Ai k n);rw[Heap.get?_update_ne _ _ _ _ (AB l)];exact Ai _ (Ai _ n);rw[Heap.size_update,size_push',size_push'];lia
set_option maxHeartbeats 16000000 in
theorem attr{os:OsState}(n:A.handled=eW)(f:h.get? a=eV {cls:=.type "enumerate",dict:=eW,data:=.fields xs,slots:=x})(q:∀h' t',(∀b u,h.get? b=eV u->h'.get? b=eV u)->h.objs.size<=h'.objs.size->Q eW #[h',g,d,t',os]):IU (IV prog w) A (getAttr? (.ref a) "keys") Q E #[h,g,d,t,os]:=by
 let y:(#[h,g,d,t,os]:IX).TypeIs (.ref a) "enumerate" := #[_,f,fR]
 let j:(#[h,g,d,t+1,os]:IX).TypeIs (.ref a) "enumerate" := #[_,f,fR]
 let r:=F.slot_enumerate_getattribute.lookup;let v:=F.slot_enumerate_getattribute.bind (.ref a);let s:isSubtype (.type "AttributeError") (.type "AttributeError")=pure eX:=a3a;unfold getAttr? getAttrBy?
 repeat (any_goals (first|assumption|wp_step))
 refine Gp F.slot_enumerate_getattribute.plain zi (F.slot_enumerate_getattribute.check _ _ _ _ _ _ _ _ j (F.args_enumerate_getattribute_2 _ _) (ag0 ?_ f λh' e t' k o m=>?_));exact n
 let(B,i,c):=o;let p:(#[h',g,d,t',os]:IX).TypeIs (.ref e) "AttributeError" := #[_,i,c]
 let z:=ag1;let l:=q h' t' k m;show IU (IV prog w) A (getattributeRaised (Value.ref a) (Value.str (BI "keys") t) (Value.type "enumerate") (.ref e) eW eY eY) _ _ _
 repeat (any_goals (first|assumption|wp_step))
end Ke
namespace L2
open PyProof.Rows
abbrev IsE2(h:JG)(e it:IS)(i:fB)(old:IT)(T:IS)(f:gQ):Prop:=h.get? e=eV {cls:=.type "enumerate",dict:=eW,data:=.fields [JU T,.bool f,.ref it,JU i,.none,old].toArray,slots := [].toArray}
theorem a4i(g1:IsE2 u.heap e it i old T f)(b:u.heap.get? T=eV c)(a:∀g,IsE2 g e it i old T eX->BE e u.heap g->Q eY {u with heap:=g}):IU (IV prog w) A (Bl (.ref e)) Q E u:=by
 unfold Bl;refine Ac (Bs g1 rfl (x:=JU T) rfl ?_);show IU _ _ (loadIfAlive T>>=_) _ _ _;refine Ac (PySem.W.kdx_alive b ?_);rw[fD (by simp)];refine Ac (Bs g1 rfl (x:=.bool f) rfl ?_);cases f with
 |false =>
  rw[fE (by decide)];refine Ac (Bi g1 (by simp) λm y d=>Al (a m y d))
 |true =>
  rw[fD (by decide)];exact Al (a u.heap g1 #[fR,λ_ _=>rfl])
theorem a4l{i:fC}(H:IsE2 u.heap e it i old T f)(W:u.heap.get? T=eV Y)(J:T≠e)(M:T≠it)(hit:u.heap.IsListIter it l i)(hl:u.heap.IsList l items)(U:items[i]?=eV x)(m:e≠it)(X:∀h',IsE2 h' e it ((i:fB)+1) old T eX->h'.IsListIter it l (i+1)->h'.get? u.heap.objs.size=eV {cls:=.type "tuple",data:=.seq [.int i u.toks,x].toArray}->
 (∀b o,b≠e->b≠it->u.heap.get? b=eV o->h'.get? b=eV o)->Q (eV (.ref u.heap.objs.size)) {u with heap:=h',toks:=u.toks+1}):
 IU (IV prog w) A (JM (.ref e)) Q E u:=by
 let R:u.TypeIs (.ref e) "enumerate" := #[_,H,fR]
 unfold JM;refine Ac (CP (Bt (name:=BI "__next__") R Dq
  (Bn Dq R FP ?_ (F0 _))))
 let(hp,g,d,tk,os):=u;show IU _ _ (field (.ref e) 2>>=_) _ _ _;refine Ac (Bs H rfl (x:=.ref it) rfl ?_);refine Ac (wpAny_nextOf_list_item hit hl U λs y a=>?_)
 replace a:BE it hp s:=a
 let q:IsE2 s e it i old T f:=(a.2 e m).trans H;show IU _ _ (field (.ref e) 3>>=_) _ _ #[s,g,d,tk,os];refine Ac (Bs q rfl (x:=JU i) rfl ?_);show IU _ _ (field (.ref e) 4>>=_) _ _ #[s,g,d,tk,os];refine Ac (Bs q rfl (x:=.none) rfl ?_);show IU _ _ (mkInt i>>=_) _ _ #[s,g,d,tk,os];refine Ac (wpAny_mkInt ?_);show IU _ _ (setField (.ref e) 3 (JU ((i:fB)+1))>>=_) _ _ #[s,g,d,tk+1,os];refine Ac (Bi q (by simp) λG t k=>?_)
 replace k:BE e s G:=k
 replace t:IsE2 G e it ((i:fB)+1) old T f:=t
 show IU _ _ (setField (.ref e) 4 .none>>=_) _ _ #[G,g,d,tk+1,os];refine Ac (Bi t (by simp) λv n h=>?_)
 replace h:BE e G v:=h
 replace n:IsE2 v e it ((i:fB)+1) old T f:=n
 show IU _ _ (newTuple [.int i tk,x]>>=_) _ _ #[v,g,d,tk+1,os];refine Ac (wpAny_newTuple (hsz:=show 2<=IR by decide) ?_);let D:IsE2 (v.push {cls:=.type "tuple",data:=.seq [.int i tk,x].toArray}) e it ((i:fB)+1) old T f:=Ai _ n;generalize hh₄:v.push {cls:=.type "tuple",data:=.seq [.int i tk,x].toArray}=C at D;let hsz:v.objs.size=hp.objs.size:=by rw[h.1,k.1,a.1]
 let O:e<hp.objs.size:=Az H;let I:C.get? hp.objs.size=eV {cls:=.type "tuple",data:=.seq [.int i tk,x].toArray}:=by rw[<- hh₄,<- hsz];exact Ay _ rfl
 let z:∀b o,b≠e->b≠it->hp.get? b=eV o->C.get? b=eV o:=λb o j p L=>by
  rw[<- hh₄];exact Ai _ (h.extBut b o j (k.extBut b o j (a.extBut b o p L)))
 let B:C.IsListIter it l (i+1):=by
  rw[<- hh₄];let(o,S,r):=(y.extBut k.extBut (AE m)).extBut h.extBut (AE m);exact#[o,Ai _ S,r]
 show IU _ _ (Bl (.ref e)>>=_) _ _ #[C,g,d,tk+1,os];rw[hsz];refine Ac (a4i D (z _ _ J M W) λP N c=>?_)
 replace c:BE e C P:=c
 simp only[if_false,B9];refine Al #[_,fR,Al (X P N (B.extBut c.extBut (AE m)) (c.extBut _ _ (BQ O) I) λb o j p L=>c.extBut b o j (z b o j p L))]
theorem a61{i:fC}(h:A.handled=eW)(d:IsE2 u.heap e it i old T f)(hit:u.heap.IsListIter it l i)(hl:u.heap.IsList l items)(k:items[i]?=eW)(n:∀h',FM it u.heap h'->Q eW {u with heap:=h'}):IU (IV prog w) A (JM (.ref e)) Q E u:=by
 let g:u.TypeIs (.ref e) "enumerate" := #[_,d,fR]
 unfold JM;refine Ac (CP (Bt (name:=BI "__next__") g Dq
  (Bn Dq g FP ?_ (F0 _))))
 show IU _ _ (field (.ref e) 2>>=_) _ _ _;refine Ac (Bs d rfl (x:=.ref it) rfl ?_);refine Ac (wpAny_nextOf_list_end h hit hl k λh' x c a=>?_);let(o,j,m):=a;refine Ac (Ds (T := "StopIteration") (b:=eX) #[o,j,m] EC ?_);exact Al (n _ c)
inductive ESt(h:JG)(n l p:IS):fC->Prop
 |z0 (old:IT)(g1:IsEnum h (n+1) n (0:fC) old)(t1:h.IsListIter n l 0):ESt h n l p 0
 |zs (i:fC)(T:IS)(f:gQ)(ot:Obj)(old:IT)(hT:p<T)(g1:IsE2 h (n+1) n ((i:fB)+1) old T f)(gT:h.get? T=eV ot)(t1:h.IsListIter n l (i+1)):ESt h n l p (i+1)
theorem ESt.keep(z:ESt h n l p i)(hn:n+1<p)(k:∀c o,c≠p->h.get? c=eV o->h'.get? c=eV o):ESt h' n l p i:=by
 let b:n+1≠p:=AB hn;let a:n≠p:=AB (AI (Cb n 1) hn);cases z with|z0 old g1 t1=>exact .z0 old (k _ _ b g1) (t1.at λo e=>k _ o a e)|zs i T f ot old hT g1 gT t1=>exact .zs i T f ot old hT (k _ _ b g1) (k _ _ (BQ hT) gT) (t1.at λo e=>k _ o a e)
theorem ESt.item(I:Inv X a σ H s)(z:ESt s.heap n l p i)(L:∀b∈[n+1,n],FpOk X a H b)(G:H l=eV (.lst xs))(F:xs[i]?=eV x)(j:n+1<p)(hp:p<s.heap.objs.size)(D:∀v tk s1,RelV x v->s1.heap.get? s.heap.objs.size=eV {cls:=.type "tuple",data:=.seq [.int i tk,v].toArray}->Inv X a σ H s1->ESt s1.heap n l p (i+1)->R (eV (.ref s.heap.objs.size)) s1):IU (IV X.prog X.w) A (JM (.ref (n+1))) R E s:=by
 let(_,d,n1,r1,_,J):=I.lstM G;let C:s.heap.IsList l d.toArray:=#[_,J,fR,_,fR]
 let(u,B,y):=r1.get F;let h:n+1≠n:=Nat.succ_ne_self n;let kp:∀{h':JG} {t':fC},(∀b o,b≠n+1->b≠n->s.heap.get? b=eV o->h'.get? b=eV o)->Inv X a σ H {s with heap:=h',toks:=t'}:=λ{h' t'} c=>I.turnedL (ch:=[n+1,n]) (t':=t') (λb o q e=>by
  simp only[Ak,Aq,gD,not_or] at q;exact c b o q.1 q.2 e) L
 cases z with
 |z0 old g1 t1 =>
  refine wpAny_pyNext_enum_item g1 t1 C (x:=u) (by simpa using B) h λh' r t m M c=>?_;exact D u s.toks _ y m (kp c) (.zs 0 _ eY _ u hp r m t)
 |zs i T f ot old hT g1 gT t1 =>
  let g:T≠n+1:=BQ (DK j hT);let k:T≠n:=BQ (DK (DK (BB n) j) hT);refine a4l (i:=i+1) g1 gT g k t1 C (x:=u) (by simpa using B) h λh' r t m c=>?_;exact D u s.toks _ y m (kp c) (.zs (i+1) T eX ot old hT r (c _ _ g k gT) t)
theorem ESt.done(k:A.handled=eW)(I:Inv X a σ H s)(z:ESt s.heap n l p i)(t:∀b∈[n+1,n],FpOk X a H b)(r:H l=eV (.lst xs))(u:xs.length<=i)(h:∀s1,Inv X a σ H s1->R eW s1):IU (IV X.prog X.w) A (JM (.ref (n+1))) R E s:=by
 let(_,c,n1,r1,_,q):=I.lstM r;let j:s.heap.IsList l c.toArray:=#[_,q,fR,_,fR]
 let m:=r1.length;let hn:c.toArray[i]?=eW:=by rw[Dh,BP (by lia)]
 let kp:∀{h':JG},FM n s.heap h'->Inv X a σ H {s with heap:=h'}:=λ{h'} d=>I.turnedL (ch:=[n+1,n]) (t':=s.toks) (λb o g e=>by
  simp only[Ak,Aq,gD,not_or] at g;exact d b o g.2 e) t
 cases z with|z0 old g1 t1=>exact wpAny_pyNext_enum_end k g1 t1 j hn λh' d=>h _ (kp d)|zs i T f ot old hT g1 gT t1=>exact a61 (i:=i+1) k g1 t1 j hn λh' d=>h _ (kp d)
def kvE:fC->eZ V->eZ (Key×V)
 |_,[]=>[]
 |k,x::xs=>(Sum.inl ((k:fC):fB),x)::kvE (k+1) xs
theorem a2k:∀(xs ys:eZ V) (k:fC),kvE k (xs++ys)=kvE k xs++kvE (k+xs.length) ys
 |[],ys,k=>by simp[kvE]
 |x::xs,ys,k=>by
  rw[DZ,kvE,kvE,a2k xs ys (k+1),Au,DZ]
  congr 3
  lia
theorem a2b:∀(xs:eZ V) (k j:fC),valV (kvE k xs) (Sum.inl ((j:fC):fB))=if j<k then eW else xs[j-k]?
 |[],k,j=>by show(eW:fA V)=_;split<;>simp
 |x::xs,k,j=>by
  rw[kvE];by_cases c:k=j;subst c;rw[il rfl,fD (AZ _),IE];rfl
  rw[iw (λe=>c (by let:=B5 e;lia)),a2b xs (k+1) j];by_cases a:j<k;rw[fE (by lia),fE a];rw[fD (by lia),fD a,show j-k=(j-(k+1))+1 by lia,DR]
theorem wg(xs:eZ V)(j:fC):valV (kvE 0 xs) (Sum.inl ((j:fC):fB))=xs[j]?:=by
 rw[a2b,fD (FF _),Eu]
theorem a36:∀(xs:eZ V) (k:fC),(kvE k xs).length=xs.length
 |[],_=>rfl
 |x::xs,k=>by rw[kvE,Au,Au,a36 xs (k+1)]
theorem adi{xs:eZ V}(a:xs[i]?=eV x):putK (kvE 0 (xs.take i)) (Sum.inl ((i:fC):fB)) x=kvE 0 (xs.take (i+1)):=by
 let b:=(Ao.mp a).1;let hl:(xs.take i).length=i:=by rw[AG];lia
 rw[AL,a,a2k,lq,hl,Ft];rfl;rw[wg,BP (by lia)]
def HdE(H:Hp)(p:IS)(xs:eZ V)(i:fC):Hp:=upd H p (.dK (kvE 0 (xs.take i)))
theorem a67(hn:n+1<p)(a:b∈[n+1,n]):b≠p:=by
 simp only[Ak,Aq,gD] at a;rcases a with rfl|rfl;exact AB hn;exact AB (AI (Cb _ 1) hn)
theorem a5b(O:A.handled=eW)(hp:H p=eW)(G:H l=eV (.lst xs))(hz:xs.length<=1000)(g:n+1<p):
 ∀(k i:fC) (s:IX),xs.length-i=k->i<=xs.length->Inv X a σ (HdE H p xs i) s->ESt s.heap n l p i->(∀b∈[n+1,n],FpOk X a (HdE H p xs i) b)->
   (∀s',Inv X a σ (HdE H p xs xs.length) s'->R (.ok (.ret .none)) s')->JS (IV X.prog X.w) A (.builtin "dict.update.loop" #[[.ref p,.ref (n+1),.int i 0,.none],[]]) R s:=by
 let d:∀i,Same H (HdE H p xs i):=λi=>fe hp _;intro k;induction k with
 |zero =>
  intro i s P hi I z u q;let e:i=xs.length:=by lia
  refine Cf Ka.entry_loop ?_;rw[BW Ka.plain_loop _];show IU _ A.in1 (JM (.ref (n+1))>>=_) _ _ s;refine Ac (ESt.done (A:=A.in1) O I z u (d i _ _ G) (by lia) λs1 t=>?_);refine Ac (Al (Al (q _ ?_)));rw[<- e];exact t
 |succ k ih =>
  intro i s P hi I z u q;let j:i<xs.length:=by lia
  obtain⟨x,F⟩:∃x,xs[i]?=eV x:=#[_,Ah j]
  let f:(HdE H p xs i) p=eV (.dK (kvE 0 (xs.take i))):=ad;refine Cf Ka.entry_loop ?_;rw[BW Ka.plain_loop _];show IU _ A.in1 (JM (.ref (n+1))>>=_) _ _ s;let(_,Q,_,_,y):=o9 I.hok f;let D:p<s.heap.objs.size:=let ⟨o,_,_,ho,_⟩:=y;Az ho;refine Ac (z.item I u (d i _ _ G) F g D λU tk s1 r2 m t M=>?_);dsimp only;refine Ac (BH ?_);refine Ac (wpAny_tryCatch ?_);unfold Builtin.Dict.pairItems;refine Ac (Eo (T := "tuple") #[_,m,fR] ?_);rw[fE (by decide)];refine Ac (BX m rfl (Al ?_));refine BH ?_;let(z0,hd,vs,rel,dd):=o9 t.hok f;let v:vs.length<=IR:=by rw[<- rel.length];exact z0
  refine wpAny_dictSet_pairs (s:=s1) (hsz:=v) (nb (k:=Sum.inl ((i:fC):fB)) #[tk,fR]) dd λh2 r h=>?_;let B:Mut ((HdE H p xs i) p):=by rw[f];exact True.intro
  let S:∃q,h2.get? p=eV q:=let ⟨q,_,_,hq,_⟩:=r;#[q,hq];let C:(putK (kvE 0 (xs.take i)) (Sum.inl ((i:fC):fB)) x).length<=IR:=by
   let:=jp (kvE 0 (xs.take i)) (Sum.inl ((i:fC):fB)) x;rw[a36,AG] at this;exact B7 (kt (by lia))
  let L:Inv X a σ (HdE H p xs (i+1)) {s1 with heap:=h2,toks:=s1.toks+1}:=by
   let:=nj (t':=s1.toks+1) (ob:=.dK (putK (kvE 0 (xs.take i)) (Sum.inl ((i:fC):fB)) x)) t B h S (ph C hd (rel.put (Sum.inl ((i:fC):fB)) r2) r);rw[adi F] at this;let e:upd (HdE H p xs i) p (.dK (kvE 0 (xs.take (i+1))))=HdE H p xs (i+1):=by
    funext b;unfold HdE
    by_cases c:b=p;rw[c,ad,ad];rw[fh c,fh c,fh c]
   rw[e] at this;exact this
  refine Al #[CO Ka.plain_loop _,ih (i+1) _ (by lia) j L (M.keep g λc o N e=>(h.2 c N).trans e) (λb J=>?_) q];let E:=u b J;refine#[?_,E.2];let:=E.1;unfold HdE at this |-;rw[fh (a67 g J)] at this |-;exact this
inductive rDictE(vs:eZ V)(H:Hp)(Q:VK):Prop
 |mk (l:IS)(xs:eZ V)(h0:vs=[.ref l])(h1:H l=eV (.lst xs))(hz:xs.length<=1000)(q:∀p,H p=eW->Q (.ref p) (upd H p (.dK (kvE 0 xs)))):rDictE vs H Q
def a7b(ta:TA):TE:=fun σ H Q=>ta σ H λvs H1=>rDictE vs H1 Q
theorem aa1(J:X.calm=eX)(z:Gl X "dict")(B:X.mg "dict"=eW)(U:Gl X "enumerate")(hm:X.mg "enumerate"=eW)(ha:PA X [a] R)(Y:IW [a] X.env=[(eY,eval a X.env)])(u:IW [.Call (.Name "enumerate" p) [a] [] pos] X.env=[(eY,eval (.Call (.Name "enumerate" p) [a] [] pos) X.env)]):
 PE X (.Call (.Name "dict" pd) [.Call (.Name "enumerate" p) [a] [] pos] [] N) (a7b R):=by
 intro d s σ H Q I h;refine Call_ (rj I z B boot_dict (BY ?_ (by rw[u];rfl) rfl));rw[u];show IU _ _ (spliced ((eY,eval (.Call (.Name "enumerate" p) [a] [] pos) X.env)::[])) _ _ s;refine B8 ?_;refine Call_ (rj I U hm boot_enumerate (BY (thn (ha pos d s σ H _ I h) λus s1 #[vs,i,y,r1,x]=>?_) (by rw[Y];rfl) rfl));let(l,xs,e,x,G,q):=x;subst e;cases r1 with
 |cons r rr =>
  cases rr;cases r;let(_,v,n1,v1,_,Z):=y.lstM x;refine call_enumerate_list (items:=v.toArray) #[_,Z,fR,_,fR] λhz g1 P g3 kp=>?_;refine Cg ?_;let D:Inv X d σ i {s1 with heap:=hz}:=y.kept (t':=s1.toks) λb o e=>kp b o e;let k:∀b∈[s1.heap.objs.size+1,s1.heap.objs.size],FpOk X d i b:=λb w=>by
   let m:s1.heap.objs.size<=b:=by
    simp only[Ak,Aq,gD] at w;rcases w with rfl|rfl;exact Cb _ 1;exact An _
   exact y.fpOk (H':=i) m (y.hok.fresh m)
  let f:s1.heap.objs.size+1<hz.objs.size:=Az g1;let M:∀p,ESt hz s1.heap.objs.size l p 0:=λp=>.z0 _ g1 P;generalize s1.heap.objs.size=n at g1 k f M |-;refine callType_codes (Q₁:=λobj O=>obj=.ref hz.objs.size/\O={s1 with heap:=hz.push {cls:=.type "dict",data:=.dict [].toArray}}) F.kt_called_dict (F.kt_typeCall_dict_1 _) F.entry_dict_init (kt_code_dict_new _ #[rfl,rfl]) ?_;rintro obj O ⟨rfl,rfl⟩;let fr:i hz.objs.size=eW:=D.hok.fresh (An _);let C:Inv X d σ (upd i hz.objs.size (.dK [])) {s1 with heap:=hz.push {cls:=.type "dict",data:=.dict [].toArray}}:=D.laid (t':=s1.toks) (λb o e=>Ai _ e) (An _) (vk _ D.big);let g:(hz.push {cls:=.type "dict",data:=.dict [].toArray}).get? hz.objs.size=eV {cls:=.type "dict",data:=.dict [].toArray}:=Ay _ rfl;let j:=Ai {cls:=.type "dict",data:=.dict [].toArray} g1;exists #[_,g,fR],F.args_dict_init_2 _ _;unfold Builtin.«dict.__init__»;refine Ac ?_;unfold Builtin.Dict.selfAndRest;refine Ac (FY #[_,g,fR] ?_);show IU _ _ (pure (hz.objs.size,[Value.ref (n+1)])) _ _ _;refine Al ?_;show IU _ _ (FA "dict.__init__" hz.objs.size (.ref (n+1)) [] .none) _ _ _;unfold FA;refine Ac (Eo (T := "enumerate") #[_,j,fR] ?_);rw[fE (by decide)];refine Ac (Ke.attr (A:=X.A.in1.in1) (show X.A.in1.in1.handled=eW from C.ok.hd J) j λh2 E k2 z2=>?_);rw[fE (show(eW:fA IT).isNone=eX from rfl)];refine Ac (CQ ?_);let Z2:ESt h2 n l hz.objs.size 0:=(M hz.objs.size).keep f λc o _ e=>k2 _ _ (Ai _ e);let S:Inv X d σ (upd i hz.objs.size (.dK [])) {s1 with heap:=h2,toks:=E}:=C.kept (t':=E) λb o e=>k2 b o e;let t:=k2 _ _ j;refine Ac (wpAny_pyIter_enum (s:={s1 with heap:=h2,toks:=E}) t ?_);refine Al #[CO Ka.plain_loop _,a5b (n:=n) (show X.A.in1.handled=eW from C.ok.hd J) fr x G f xs.length 0 _ rfl (AF _) S Z2 (λb w=>?_) λs' W=>?_]
  . let L:=k b w;refine#[?_,L.2];show(upd i hz.objs.size (.dK [])) b=eW;rw[fh (a67 f w)];exact L.1
  exists rfl,.ref hz.objs.size,_,W,rfl;let:=q hz.objs.size fr;unfold HdE;rw[AW];exact this
theorem a91(i:X.calm=eX)(c:Gl X "dict")(d:X.mg "dict"=eW)(f:Gl X "enumerate")(hm:X.mg "enumerate"=eW)(j:QA X [a] g)(h:autoParam (IW [a] X.env=[(eY,eval a X.env)]) a4_)(b:autoParam (IW [.Call (.Name "enumerate" p) [a] [] pos] X.env=[(eY,eval (.Call (.Name "enumerate" p) [a] [] pos) X.env)]) a4_):
 QE X (.Call (.Name "dict" pd) [.Call (.Name "enumerate" p) [a] [] pos] [] e) (a7b g):=#[aa1 i c d f hm j.run h b]
theorem a5m(h:Q 0xFCA86420 {s with toks:=s.toks+1}):IU (IV prog w) A (pyHash .none) Q E s:=by
 let a:s.TypeIs .none "NoneType" := rfl;unfold pyHash;let hv:[Value.none].any Value.onHeap=eY:=rfl;refine Ac ?_;rw[cRoomFor,fD (by rw[hv];exact Aw)];refine Al ?_;refine Ac (Es a Dv.lookup ?_);show IU _ _ (if(eV (Value.builtin "NoneType.__hash__")==eV Value.none)=eX then _ else _) Q E s;rw[fD (by rw[beq_builtin_none];exact Aw)];refine Ac (Es a Dv.lookup ?_);show IU _ _ (callSpecialIfBoundUnlessNone? .none "__hash__" _>>=_) Q E s;refine Ac (wpAny_callSpecialIfBoundUnlessNone?_slot a Dv
  (Bn Dv a F.entry_NoneType_hash
   (show IU _ _ (do ret (<- mkInt 0xFCA86420)) _ _ s from wpAny_ret_mkInt ?_) (F.args_NoneType_hash_1 _)))
 show IU _ _ (if(decide (-(2:fB) ^ 63<=0xFCA86420) && decide ((0xFCA86420:fB)<2 ^ 63))=eX then _ else _) Q E _;rw[fE (by decide)];exact Al h
def zx(P:JH)(w:JL):fA Key->IT->gQ
 |none,.none=>eX
 |none,_=>eY
 |some k,v=>(i4 P w).is k v
theorem oh(h:(i4 P w).is k v=eX):(∃i t,k=Sum.inl i/\v=.int i t)\/∃x t,k=Sum.inr x/\v=.str x t:=by
 rw[a4g] at h;cases k with|inl i=>let(t,e):=Hq h;exact .inl #[i,t,fR,e]|inr x=>let(t,e):=E4 h;exact .inr #[x,t,fR,e]
theorem mf(h:zx P w eW v=eX):v=.none:=by
 cases v<;>first|rfl|exact fF h (by unfold zx;exact Aw)
def a3i(prog:JH)(w:JL):Iv prog w (fA Key) where
 is:=zx prog w
 hash:=λk=>match k with|none=>0xFCA86420|some k=>(i4 prog w).hash k
 inj:=λv a b ha hb=>by
  cases a with
  |none =>
   let:=mf ha;subst this;cases b with
   |none=>rfl
   |some b=>rcases oh (show(i4 prog w).is b .none=eX from hb) with⟨_,_,_,z⟩|⟨_,_,_,z⟩<;>cases z
  |some a =>
   cases b with
   |none =>
    let:=mf hb;subst this;rcases oh (show(i4 prog w).is a .none=eX from ha) with⟨_,_,_,z⟩|⟨_,_,_,z⟩<;>cases z
   |some b=>exact fX eV ((i4 prog w).inj v a b ha hb)
 byValue:=λk v h=>by
  cases k with|none=>rw[mf h];rfl|some k=>exact(i4 prog w).byValue k v h
 pyHash:=λ{A E s k v Q} h q=>by
  cases k with|none=>rw[mf h];exact a5m q|some k=>exact(i4 prog w).pyHash h q
 eqBool:=λ{A E s a b u v Q} ha hb q=>by
  cases a with
  |none =>
   rw[mf ha];cases b with
   |none=>rw[mf hb];exact HX _ _ _ _ _ q
   |some b =>
    rcases oh (show(i4 prog w).is b v=eX from hb) with⟨i,t,rfl,rfl⟩|⟨x,t,rfl,rfl⟩
    . exact Gy _ _ _ _ _ _ q
    exact Gz _ _ _ _ _ _ q
  |some a =>
   cases b with
   |none =>
    rw[mf hb];rcases oh (show(i4 prog w).is a u=eX from ha) with⟨i,t,rfl,rfl⟩|⟨x,t,rfl,rfl⟩
    . exact G7 _ _ _ _ _ _ q
    exact G8 _ _ _ _ _ _ q
   |some b =>
    refine(i4 prog w).eqBool ha hb ?_;let e:decide (eV a=eV b)=decide (a=b):=by simp
    rw[<- e];exact q
 «strs» := λk x t v h=>by
  cases k with|none=>cases h|some k=>exact(i4 prog w).«strs» k x t v h
theorem aco{h:JG}(m:h.MapOf (i4 P w) a f):h.MapOf (a3i P w) a (λk=>match k with|none=>eW|some k=>f k):=by
 let(o,es,ep,h1,h2,h3,c,d):=m;refine#[o,es,ep,h1,h2,h3,λe b=>?_,λk=>?_];let(k,k1,k2):=c e b;exact#[eV k,k1,k2]
 cases k with
 |some k=>exact d k
 |none =>
  show findBy (zx P w) es eW=eW;unfold findBy;rw[<- He,BA.mpr];rfl;intro e b z;let(k,k1,_):=c e (by simpa using b);let:=mf z;rw[this] at k1;rcases oh k1 with⟨_,_,_,y⟩|⟨_,_,_,y⟩<;>cases y
theorem aev(g:X.A.units+1<cLine):OpR X (JD .NotIn) (λx y H Q=>∃(d:IS) (kvs:eZ (Key×V)),y=.ref d/\H d=eV (.dK kvs)/\((x=.non/\Q (.bl eX) H)\/∃j:fB,x=.int j/\Q (.bl (!(valV kvs (Sum.inl j)).isSome)) H)):=by
 intro a s σ H x y v u Q I b f h;let(d,kvs,rfl,hd,h):=h;cases f;rcases h with⟨rfl,q⟩|⟨j,rfl,q⟩
 . cases b;let(z,c,vs,rel,dd):=o9 I.hok hd;exact wpAny_notIn_of (knd:=a3i X.prog X.w) (k:=eW) rfl c (aco dd.mapOf) #[.bl eX,H,I.tok _,fR,q]
 exact a2i g I (DGet.k (k:=Sum.inl j) hd) b λs' e=>#[.bl _,H,e,fR,q]
end L2
namespace Fol
open L2 Kn
abbrev Mem:=fB->fA (fB×fB)
inductive Seg(m:Mem)(e:fB):fB->eZ fB->Prop
 |nil:Seg m e e []
 |cons{x f s:fB}{row:eZ fB}(h1:x≠e)(h2:m x=eV (f,s))(h3:¬ x∈row)(h4:Seg m e s row):Seg m e x (x::row)
inductive Tr(m:Mem):fB->eZ fB->Prop
 |nil:Tr m 0 []
 |node{x f s:fB}{r1 r2:eZ fB}(h1:x≠0)(h2:m x=eV (f,s))(t1:Tr m f r1)(t2:Tr m s r2)(n1:¬ x∈r1)(n2:¬ x∈r2)(n3:∀y∈r1,¬ y∈r2):Tr m x (x::(r1++r2))
inductive Tk(v:fS->fB)(m:Mem):fJ->eZ fB->Prop
 |cell{a f s:fS}{x y:fB}(h:m (v a)=eV (x,y))(hf:f="any" \/ v f=x)(hs:s="any" \/ v s=y):Tk v m [("cell":fS),a,f,s] [v a]
 |str{a e:fS}{row:eZ fB}(h:Seg m (v e) (v a) row):Tk v m [("stretch":fS),a,e] row
 |tree{a:fS}{row:eZ fB}(h:Tr m (v a) row):Tk v m [("tree":fS),a] row
structure Fits(v:fS->fB)(m:Mem)(F P:fG)(D:fC->eZ fB):Prop where
 is_:∀a b,[("is":fS),a,b]∈F->v a=v b
 not_:∀a b,[("not":fS),a,b]∈F->v a≠v b
 tk:∀(j:fC) r,P[j]?=eV r->Tk v m r (D j)
 apart:∀(i j:fC) r s,P[i]?=eV r->P[j]?=eV s->i≠j->∀x∈D i,¬ x∈D j
 whole:∀x c,m x=eV c->∃(j:fC) (r:fJ),P[j]?=eV r/\x∈D j
theorem Seg.dom(h:Seg m e x row):∀y∈row,∃c,m y=eV c:=by
 induction h with
 |nil=>intro y a;cases a
 |cons h1 h2 h3 _ ih =>
  intro y a;rcases Ak.mp a with rfl|z;exact#[_,h2];exact ih y z
theorem Tr.dom(h:Tr m x row):∀y∈row,∃c,m y=eV c:=by
 induction h with
 |nil=>intro y a;cases a
 |node h1 h2 _ _ _ _ _ i1 i2 =>
  intro y a;rcases Ak.mp a with rfl|z;exact#[_,h2]
  rcases Ab.mp z with z|z;exact i1 y z;exact i2 y z
theorem Tk.dom(h:Tk v m r row):∀y∈row,∃c,m y=eV c:=by
 cases h with|cell h _ _=>intro y a;rw[Ae.mp a];exact#[_,h]|str h=>exact h.dom|tree h=>exact h.dom
theorem Seg.nodup(h:Seg m e x row):row.Nodup:=by
 induction h with|nil=>exact Bh|cons _ _ h3 _ ih=>exact AK.mpr #[h3,ih]
theorem Tr.nodup(h:Tr m x row):row.Nodup:=by
 induction h with
 |nil=>exact Bh
 |node _ _ _ _ n1 n2 n3 i1 i2 =>
  refine AK.mpr #[λz=>(Ab.mp z).elim n1 n2,AN.mpr #[i1,i2,λa d b c e=>n3 a d (e ▸ c)]]
theorem Tk.nodup(h:Tk v m r row):row.Nodup:=by
 cases h with|cell=>exact AK.mpr #[Aq,Bh]|str h=>exact h.nodup|tree h=>exact h.nodup
theorem Seg.head(h:Seg m e x row)(n:x≠e):x∈row:=by
 cases h with|nil=>exact fF rfl n|cons=>exact Af ..
theorem Tr.head(h:Tr m x row)(n:x≠0):x∈row:=by
 cases h with|nil=>exact fF rfl n|node=>exact Af ..
theorem Tk.head(f:v "nil"=0)(h:Tk v m r row)(d:FullR (λa b=>v a≠v b) r):v (place r)∈row:=by
 cases h with
 |cell=>exact Af ..
 | @str a e _ h =>
  refine h.head ?_;rcases d with z|z;exact fF z (by show ¬ ("stretch":fS)="cell";decide)
  let c:v a≠v (end2 [("stretch":fS),a,e]):=z
  rwa [show end2 [("stretch":fS),a,e]=e from by unfold end2;rw[fE (show[("stretch":fS),a,e].getD 0 ""="stretch" from rfl)];rfl] at c
 | @tree a _ h =>
  refine h.head ?_;rcases d with z|z;exact fF z (by show ¬ ("tree":fS)="cell";decide)
  let c:v a≠v (end2 [("tree":fS),a]):=z
  rwa [show end2 [("tree":fS),a]="nil" from by unfold end2;rw[fD (by show ¬ ("tree":fS)="stretch";decide)],f] at c
theorem Seg.app(h:Seg m q x row)(hn:∀y∈row,y≠e)(hd:∀y∈row,¬ y∈r2)(h2:Seg m e q r2):Seg m e x (row++r2):=by
 induction h with
 |nil=>exact h2
 |cons a b c _ ih =>
  refine .cons (hn _ (Af ..)) b (λz=>?_) (ih (λy d=>hn y (Ag _ d)) (λy d=>hd y (Ag _ d)) );rcases Ab.mp z with z|z;exact c z;exact hd _ (Af ..) z
theorem Fits.conn(h:Fits v m F P D)(c:Conn F a b):v a=v b:=by
 induction c with|refl=>rfl|fact z=>exact h.is_ _ _ z|symm _ ih=>exact ih.symm|trans _ _ i1 i2=>exact i1.trans i2
theorem Fits.clo(h:Fits v m F P D)(e:v "nil"=0)(hm:m 0=eW):Clo F P (λa b=>v a≠v b) where
 fact:=λa b z=>h.not_ a b z
 symm:=λ_ _ z=>z.symm
 conn:=λa b c h1 h2=>by rw[h.conn h1];exact h2
 nil:=λp hp k=>by
  let(j,d):=CD hp;let:=(h.tk j p d).head e k;let(c,f):=(h.tk j p d).dom _ this;intro z;rw[z,e,hm] at f;cases f
 two:=λi j p q hi d hn l g z=>by
  let h1:=(h.tk i p hi).head e l;let h2:=(h.tk j q d).head e g;rw[z] at h1;exact h.apart i j p q hi d hn _ h1 h2
theorem Fits.un(h:Fits v m F P D)(c:v "nil"=0)(hm:m 0=eW)(u:Un F P a b):v a≠v b:=u _ (h.clo c hm)
structure Env where
 P:fG
 al:fS->fS->Prop
 at_:fS->fC->Prop
 full:fC->Prop
inductive Lies(E:Env)(e:fS):fH->Prop
 |nil (h:E.al e "nil"):Lies E e []
 |full{i:fC}(h:¬ E.al e "nil")(h1:E.at_ e i)(h2:E.full i):Lies E e []
 |ask{i:fC}{r:fJ}(h:¬ E.al e "nil")(h1:E.at_ e i)(h2:¬ E.full i)(h3:E.P[i]?=eV r):Lies E e [(place r,end2 r)]
inductive Pass(E:Env)(j:fC)(e:fS):fS->fH->Prop
 |cell{p f s:fS}(h:E.P[j]?=eV [("cell":fS),p,f,s])(h1:¬ s="any"):Pass E j e s [(p,e)]
 |own{p q:fS}(h:E.P[j]?=eV [("stretch":fS),p,q])(h1:E.al q e):Pass E j e q []
 |on{p q:fS}{lo:fH}(h:E.P[j]?=eV [("stretch":fS),p,q])(h1:¬ E.al q e)(h2:Lies E e lo):Pass E j e q ((p,e)::lo)
inductive StrR(E:Env)(e:fS):eZ fC->fS->eZ fC->fH->Prop
 |nil{tk:eZ fC}{a:fS}(h:E.al a e):StrR E e tk a [] []
 |cons{tk:eZ fC}{a a':fS}{j:fC}{js:eZ fC}{q1 q2:fH}(h:¬ E.al a e)(h1:E.at_ a j)(h2:¬ j∈tk)(h3:Pass E j e a' q1)(h4:StrR E e (tk++[j]) a' js q2):StrR E e tk a (j::js) (q1++q2)
inductive TreeR(E:Env):eZ fC->fJ->eZ fC->Prop
 |done{tk:eZ fC}:TreeR E tk [] []
 |nil{tk:eZ fC}{cs:fJ}{x:fS}{js:eZ fC}(h:E.al x "nil")(h1:TreeR E tk cs js):TreeR E tk (cs++[x]) js
 |tree{tk:eZ fC}{cs:fJ}{x p:fS}{j:fC}{js:eZ fC}(h:¬ E.al x "nil")(h1:E.at_ x j)(h2:¬ j∈tk)(h3:E.P[j]?=eV [("tree":fS),p])(h4:TreeR E (tk++[j]) cs js):TreeR E tk (cs++[x]) (j::js)
 |cell{tk:eZ fC}{cs:fJ}{x p f s:fS}{j:fC}{js:eZ fC}(h:¬ E.al x "nil")(h1:E.at_ x j)(h2:¬ j∈tk)(h3:E.P[j]?=eV [("cell":fS),p,f,s])(h5:¬ f="any")(h6:¬ s="any")(h4:TreeR E (tk++[j]) (cs++[s,f]) js):TreeR E tk (cs++[x]) (j::js)
def Gives(E:Env)(f a:fS):Prop:=a="any" \/ (¬ f="any" /\ E.al f a)
inductive RowR(E:Env)(tk:eZ fC):fJ->eZ fC->fH->Prop
 |cell{a f s p f' s':fS}{j:fC}(h1:E.at_ a j)(h2:¬ j∈tk)(h3:E.P[j]?=eV [("cell":fS),p,f',s'])(h4:Gives E f' f)(h5:Gives E s' s):RowR E tk [("cell":fS),a,f,s] [j] []
 |str{a e:fS}{js:eZ fC}{q:fH}(h:StrR E e tk a js q):RowR E tk [("stretch":fS),a,e] js q
 |tree{a:fS}{js:eZ fC}(h:TreeR E tk [a] js):RowR E tk [("tree":fS),a] js []
inductive RowsR(E:Env):eZ fC->fG->eZ (eZ fC)->fH->Prop
 |nil{tk:eZ fC}:RowsR E tk [] [] []
 |cons{tk js:eZ fC}{r:fJ}{rs:fG}{jss:eZ (eZ fC)}{q1 q2:fH}(h:RowR E tk r js q1)(h2:RowsR E (tk++js) rs jss q2):RowsR E tk (r::rs) (js::jss) (q1++q2)
structure Sem(v:fS->fB)(m:Mem)(E:Env)(D:fC->eZ fB):Prop where
 nil:v "nil"=0
 zero:m 0=eW
 al:∀a b,E.al a b->v a=v b
 tk:∀(j:fC) r,E.P[j]?=eV r->Tk v m r (D j)
 apart:∀(i j:fC) r s,E.P[i]?=eV r->E.P[j]?=eV s->i≠j->∀x∈D i,¬ x∈D j
 at_:∀x j,E.at_ x j->∃r,E.P[j]?=eV r/\v (place r)=v x
 full:∀j r,E.full j->E.P[j]?=eV r->v (place r)∈D j
 ask:∀j r,E.P[j]?=eV r->v (place r)≠v (end2 r)->v (place r)∈D j
def jw(D:fC->eZ fB)(js:eZ fC):eZ fB:=(js.map D).flatten
section
theorem p9(j:fC)(a:eZ fC):jw D (j::a)=D j++jw D a:=rfl
theorem cellsOf_mem:x∈jw D c↔∃j∈c,x∈D j:=by
 unfold jw;rw[Bz];constructor;rintro⟨l,hl,b⟩;let(j,a,rfl):=As.mp hl;exact#[j,a,b];rintro⟨j,a,b⟩;exact#[_,As.mpr #[j,a,fR],b]
theorem Sem.off(S:Sem v m E D)(d:E.P[j]?=eV r)(hn:¬ j∈c)(a:∀i∈c,∃s,E.P[i]?=eV s):∀x∈D j,¬ x∈jw D c:=λx g z=>by
 let(i,hi,b):=cellsOf_mem.mp z;let(s,f):=a i hi;exact S.apart j i r s d f (λe=>hn (e ▸ hi)) x g b
theorem StrR.new(h:StrR E e tk a b q):∀i∈b,¬ i∈tk:=by
 induction h with
 |nil=>intro i hi;cases hi
 |cons _ _ h2 _ _ ih =>
  intro i hi z;rcases Ak.mp hi with rfl|hi;exact h2 z;exact ih i hi (Ab.mpr (.inl z))
theorem Pass.part(h:Pass E j e a q):∃r,E.P[j]?=eV r:=by cases h<;>exact#[_,by assumption]
theorem StrR.parts(h:StrR E e tk a b q):∀i∈b,∃r,E.P[i]?=eV r:=by
 induction h with
 |nil=>intro i hi;cases hi
 |cons _ _ _ h3 _ ih =>
  intro i hi;rcases Ak.mp hi with rfl|hi;exact h3.part;exact ih i hi
theorem end2_str(a e:fS):end2 [("stretch":fS),a,e]=e:=by unfold end2;rw[fE (show[("stretch":fS),a,e].getD 0 ""="stretch" from rfl)];rfl
theorem Lies.out(S:Sem v m E D){lo:fH}(h:Lies E e lo)(g:∀p∈lo,v p.1≠v p.2)(b:E.P[j]?=eV r)(hp:v (place r)≠v e):∀y∈D j,y≠v e:=λy d z=>by
 cases h with
 |nil h =>
  let(c,f):=(S.tk j r b).dom y d;rw[z,S.al _ _ h,S.nil,S.zero] at f;cases f
 | @full i h h1 h2 =>
  let(s,a,hv):=S.at_ _ _ h1;let hm:=S.full i s h2 a;by_cases c:j=i;subst c;rw[b] at a;cases a;exact hp hv;exact S.apart j i r s b a c y d (by rw[z,<- hv];exact hm)
 | @ask i s' h h1 h2 h3 =>
  let(s,a,hv):=S.at_ _ _ h1;rw[h3] at a;cases a;let hm:=S.ask i s' h3 (g _ (Af ..));by_cases c:j=i;subst c;rw[b] at h3;cases h3;exact hp hv;exact S.apart j i r s' b h3 c y d (by rw[z,<- hv];exact hm)
theorem StrR.seg(S:Sem v m E D)(h:StrR E e tk a l q)(n:∀p∈q,v p.1≠v p.2):Seg m (v e) (v a) (jw D l):=by
 induction h with
 |nil h=>rw[S.al _ _ h];exact .nil
 | @cons tk a a' j l q1 q2 h h1 h2 h3 h4 ih =>
  let d:=ih λp hp=>n p (Ab.mpr (.inr hp));let b:∀p∈q1,v p.1≠v p.2:=λp hp=>n p (Ab.mpr (.inl hp));let(r,c,hv):=S.at_ _ _ h1;let hn:¬ j∈l:=λz=>h4.new j z (Ab.mpr (.inr (Ae.mpr rfl)));let off:=S.off c hn h4.parts;rw[p9,<- hv];let T:=S.tk j r c;cases h3 with
  | @cell p f s h3 h5 =>
   rw[c] at h3;cases h3;generalize hD:D j=i at T off;cases T with
   | @cell _ _ _ x y g1 g2 g3 =>
    let o:v a'=y:=g3.resolve_left h5;exact .cons (b _ (Af ..)) g1 (off _ (Af ..)) (by rw[<- o];exact d)
  | @own p q' h3 h5 =>
   rw[c] at h3;cases h3;generalize hD:D j=i at T off;cases T with
   |str g =>
    let t:=S.al _ _ h5;cases h4 with
    |nil _ =>
     let:Seg m (v e) (v p) i:=t ▸ g;show Seg m (v e) (v p) (i++[]);rw[A2];exact this
    |cons hh _ _ _ _=>exact fF h5 hh
  | @on p q' lo h3 h5 h6 =>
   rw[c] at h3;cases h3;let k:v p≠v e:=b _ (Af ..);let out:=h6.out S (λp hp=>b p (Ag _ hp)) c k;generalize hD:D j=i at T off out;cases T with|str g=>exact g.app out off d
inductive Forest(m:Mem):eZ fB->eZ fB->Prop
 |nil:Forest m [] []
 |cons{x:fB}{xs r1 r2:eZ fB}(h:Tr m x r1)(h2:Forest m xs r2)(h3:∀y∈r1,¬ y∈r2):Forest m (x::xs) (r1++r2)
theorem TreeR.new(h:TreeR E tk cs a):∀i∈a,¬ i∈tk:=by
 induction h with
 |done=>intro i hi;cases hi
 |nil _ _ ih=>exact ih
 |tree _ _ h2 _ _ ih =>
  intro i hi z;rcases Ak.mp hi with rfl|hi;exact h2 z;exact ih i hi (Ab.mpr (.inl z))
 |cell _ _ h2 _ _ _ _ ih =>
  intro i hi z;rcases Ak.mp hi with rfl|hi;exact h2 z;exact ih i hi (Ab.mpr (.inl z))
theorem TreeR.parts(h:TreeR E tk cs a):∀i∈a,∃r,E.P[i]?=eV r:=by
 induction h with
 |done=>intro i hi;cases hi
 |nil _ _ ih=>exact ih
 |tree _ _ _ h3 _ ih =>
  intro i hi;rcases Ak.mp hi with rfl|hi;exact#[_,h3];exact ih i hi
 |cell _ _ _ h3 _ _ _ ih =>
  intro i hi;rcases Ak.mp hi with rfl|hi;exact#[_,h3];exact ih i hi
theorem ki(h:Forest m (x::xs) R):∃r1 r2,R=r1++r2/\Tr m x r1/\Forest m xs r2/\∀y∈r1,¬ y∈r2:=by
 cases h with|cons h h2 h3=>exact#[_,_,fR,h,h2,h3]
theorem TreeR.forest(S:Sem v m E D)(h:TreeR E tk cs c):Forest m (cs.reverse.map v) (jw D c):=by
 induction h with
 |done=>exact .nil
 |nil h _ ih =>
  rw[DA,DY,Cw,A5,S.al _ _ h,S.nil];exact .cons .nil ih (λy b=>by cases b)
 | @tree tk cs x p j c h h1 h2 h3 h4 ih =>
  let(r,d,hv):=S.at_ _ _ h1;rw[h3] at d;cases d;let hn:¬ j∈c:=λz=>h4.new j z (Ab.mpr (.inr (Ae.mpr rfl)));let off:=S.off h3 hn h4.parts;let T:=S.tk j _ h3;rw[DA,DY,Cw,A5,<- hv,p9];generalize D j=C at T off;cases T with|tree g=>exact .cons g ih off
 | @cell tk cs x p f s j c h h1 h2 h3 h5 h6 h4 ih =>
  let(r,d,hv):=S.at_ _ _ h1;rw[h3] at d;cases d;let hn:¬ j∈c:=λz=>h4.new j z (Ab.mpr (.inr (Ae.mpr rfl)));let off:=S.off h3 hn h4.parts;let T:=S.tk j _ h3;rw[DA,DY,Cw,A5,<- hv,p9];let n:Forest m (v f::v s::cs.reverse.map v) (jw D c):=by
   rw[DA] at ih;exact ih
  let(r1,J,u,I,H,q):=ki n;let(r2,R2,i,G,B,A):=ki H;generalize D j=C at T off;cases T with
  | @cell _ _ _ x y g1 g2 g3 =>
   let w:=g2.resolve_left h5;let es:=g3.resolve_left h6;let a:=off _ (Af ..);rw[u,i] at a;let l:¬ v p∈r1:=λz=>a (Ab.mpr (.inl z));let k:¬ v p∈r2:=λz=>a (Ab.mpr (.inr (Ab.mpr (.inl z))));let o:¬ v p∈R2:=λz=>a (Ab.mpr (.inr (Ab.mpr (.inr z))));let F:v p≠0:=λz=>by rw[z,S.zero] at g1;cases g1
   let t:Tr m (v p) (v p::(r1++r2)):=.node F g1 (w ▸ I) (es ▸ G) l k (λy b z=>q y b (by rw[i];exact Ab.mpr (.inl z)));let e:[v p]++jw D c=(v p::(r1++r2))++R2:=by rw[u,i];simp
   rw[e];refine .cons t B (λy b z=>?_);rcases Ak.mp b with rfl|b;exact o z
   rcases Ab.mp b with b|b;exact q y b (by rw[i];exact Ab.mpr (.inr z));exact A y b z
theorem RowR.tk(S:Sem v m E D){tk g:eZ fC}{r:fJ}{q:fH}(h:RowR E tk r g q)(k:∀p∈q,v p.1≠v p.2):Tk v m r (jw D g):=by
 cases h with
 | @cell a f s p f' s' j h1 h2 h3 h4 h5 =>
  let(r,i,hv):=S.at_ _ _ h1;rw[h3] at i;cases i;let T:=S.tk j _ h3;let e:jw D [j]=D j:=by unfold jw;simp
  rw[e];generalize D j=l at T;cases T with
  | @cell _ _ _ x y g1 g2 g3 =>
   let c:v p=v a:=hv;rw[c] at g1 |-;refine .cell g1 ?_ ?_;rcases h4 with z|⟨b,d⟩;exact .inl z;exact .inr ((S.al _ _ d).symm.trans (g2.resolve_left b))
   rcases h5 with z|⟨b,d⟩;exact .inl z;exact .inr ((S.al _ _ d).symm.trans (g3.resolve_left b))
 |str h=>exact .str (h.seg S k)
 |tree h =>
  let:=h.forest S;let(r1,r2,e,t,F,_):=ki (show Forest m (v _::[]) _ from this);cases F;rw[e,A2];exact .tree t
theorem RowR.new{tk a:eZ fC}{r:fJ}{q:fH}(h:RowR E tk r a q):(∀i∈a,¬ i∈tk)/\∀i∈a,∃r,E.P[i]?=eV r:=by
 cases h with|cell h1 h2 h3 _ _=>exact#[λi hi=>by rw[Ae.mp hi];exact h2,λi hi=>by rw[Ae.mp hi];exact#[_,h3]]|str h=>exact#[h.new,h.parts]|tree h=>exact#[h.new,h.parts]
theorem RowsR.at_(h:RowsR E tk rs g q):∀(i:fC) r,rs[i]?=eV r->∃j tk' k,g[i]?=eV j/\RowR E tk' r j k/\(∀p∈k,p∈q):=by
 induction h with
 |nil=>intro i r h;simp at h
 | @cons tk j r rs g q1 q2 h h2 ih =>
  intro i s l;cases i with
  |zero=>cases l;exact#[j,tk,q1,fR,h,λp hp=>Ab.mpr (.inl hp)]
  |succ i =>
   let(a,b,c,d,e,f):=ih i s (by simpa using l);exact#[a,b,c,by simpa using d,e,λp hp=>Ab.mpr (.inr (f p hp))]
theorem RowsR.len(h:RowsR E tk rs a q):a.length=rs.length:=by
 induction h with|nil=>rfl|cons _ _ ih=>rw[Au,Au,ih]
variable{E:Env} in
theorem RowsR.apart{tk:eZ fC}{rs:fG}{c:eZ (eZ fC)}{q:fH}(h:RowsR E tk rs c q):(∀e∈c,∀i∈e,¬ i∈tk)/\∀(i k:fC) a b,i<k->c[i]?=eV a->c[k]?=eV b->∀x∈a,¬ x∈b:=by
 induction h with
 |nil=>exact#[λe h=>(by cases h),λi k a b _ h=>(by simp at h)]
 | @cons tk e r rs c q1 q2 h h2 ih =>
  refine#[λl hl i hi z=>?_,λi k a b m g j x f z=>?_];rcases Ak.mp hl with rfl|hl;exact h.new.1 i hi z;exact ih.1 l hl i hi (Ab.mpr (.inl z))
  cases k with
  |zero=>lia
  |succ k =>
   let d:c[k]?=eV b:=by simpa using j
   cases i with
   |zero =>
    cases g;exact ih.1 b (Ar d) x z (Ab.mpr (.inr f))
   |succ i=>exact ih.2 i k a b (by lia) (by simpa using g) d x f z
variable{v:fS->fB}{m:Mem}{E:Env}{D:fC->eZ fB} in
theorem fits_of{F G S:fG}{d:eZ (eZ fC)}{q:fH}(R:Sem v m E D)(h:RowsR E [] S d q)(Y:∀p∈q,v p.1≠v p.2)(hi:∀a b,[("is":fS),a,b]∈G->v a=v b)(hn:∀a b,[("not":fS),a,b]∈G->v a≠v b)(C:∀x c,m x=eV c->∃(j:fC) (r:fJ),E.P[j]?=eV r/\x∈D j)(o:∀j x,x∈D j->(∃r,E.P[j]?=eV r)->∃g∈d,j∈g):Fits v m G S (λi=>jw D (d.getD i [])):=by
 let hl:=h.len;let y:∀{i:fC} {g:eZ fC},d[i]?=eV g->d.getD i []=g:=λ{i g} e=>by rw[A7,e];rfl
 let two:∀(i k:fC) r s,i<k->S[i]?=eV r->S[k]?=eV s->∀x∈jw D (d.getD i []),¬ x∈jw D (d.getD k []):=λi k r s l n H x f z=>by
  let(a,_,_,U,A,_):=h.at_ i r n;let(b,_,_,T,B,_):=h.at_ k s H;rw[y U] at f;rw[y T] at z;let(u,Q,J):=cellsOf_mem.mp f;let(w,C,N):=cellsOf_mem.mp z;let(X,O):=A.new.2 u Q;let(L,I):=B.new.2 w C;by_cases c:u=w;subst c;exact h.apart.2 i k a b l U T u Q C;exact R.apart u w X L O I c x J N
 refine#[hi,hn,λi r n=>?_,λi k r s n H l x f z=>?_,λx c f=>?_];let(g,tk',Z,h1,h2,h3):=h.at_ i r n;rw[y h1];exact h2.tk R λp hp=>Y p (h3 p hp);rcases Ho l with c|c;exact two i k r s c n H x f z;exact two k i s r c H n x z f
 let(j,r,W,t):=C x c f;let(g,h1,h2):=o j x t #[r,W];let(i,hi):=CD h1;let M:i<S.length:=by rw[<- hl];exact(Ao.mp hi).1
 exists i,S[i],Ah M;rw[y hi];exact cellsOf_mem.mpr #[j,h2,t]
end
end Fol
namespace Fol
open L2 Kn
structure Mm where
 P:fG
 al:fS->fS->gQ
 num:fS->fA fC
 full:fC->gQ
def Mm.env(M:Mm):Env:=#[M.P,λa b=>M.al a b=eX,λx j=>M.num x=eV j,λj=>M.full j=eX]
def takeF(M:Mm)(tk:eZ fC)(x:fS):fA fC:=match M.num x with
 |none=>eW
 |some j=>if j∈tk then eW else eV j
def liesF(M:Mm)(e:fS):fA (fH):=if M.al e "nil"=eX then eV [] else match M.num e with
 |none=>eW
 |some i=>if M.full i=eX then eV [] else eV [(place (M.P.getD i []),end2 (M.P.getD i []))]
inductive PRes
 |ok (a:fS)(q:fH)
 |amid
 |fail
def passF(M:Mm)(j:fC)(e:fS):PRes:=match M.P.getD j [] with
 |[k,p,_,s]=>if k="cell" /\ ¬ s="any" then .ok s [(p,e)] else .fail
 |[k,p,q]=>if k="stretch" then(if M.al q e=eX then .ok q [] else match liesF M e with
  |none=>.amid
  |some lo=>.ok q ((p,e)::lo)) else .fail
 |_=>.fail
inductive SRes
 |ok (js:eZ fC)(q:fH)
 |amid (j:fC)
 |fail
def SRes.put(j:fC)(q1:fH):SRes->SRes
 |.ok js q=>.ok (j::js) (q1++q)
 |x=>x
def strF(M:Mm)(e:fS):fC->eZ fC->fS->SRes
 |0,_,_=>.fail
 |n+1,tk,a=>if M.al a e=eX then .ok [] [] else match takeF M tk a with
  |none=>.fail
  |some j=>match passF M j e with
   |.fail=>.fail
   |.amid=>.amid j
   |.ok a' q1=>(strF M e n (tk++[j]) a').put j q1
def treeF(M:Mm):fC->eZ fC->fJ->fA (eZ fC)
 |0,_,_=>eW
 |_+1,_,[]=>eV []
 |n+1,tk,x::cs=>if M.al x "nil"=eX then treeF M n tk cs else match takeF M tk x with
  |none=>eW
  |some j=>match M.P.getD j [] with
   |[k,p]=>if k="tree" /\ ¬ p="any" then(treeF M n (tk++[j]) cs).map (j :: ·) else eW
   |[k,p,f,s]=>if k="cell" /\ ¬ p="any" /\ ¬ f="any" /\ ¬ s="any" then(treeF M n (tk++[j]) (f::s::cs)).map (j :: ·) else eW
   |_=>eW
def givesF(M:Mm)(f a:fS):gQ:=decide (a="any") || (!decide (f="any") && M.al f a)
def cellF(M:Mm)(tk:eZ fC)(a f s:fS):SRes:=match takeF M tk a with
 |none=>.fail
 |some j=>match M.P.getD j [] with
  |[k,_,f',s']=>if k="cell" /\ givesF M f' f=eX/\givesF M s' s=eX then .ok [j] [] else .fail
  |_=>.fail
def rowF(M:Mm)(tk:eZ fC):fJ->SRes
 |[_,a,f,s]=>cellF M tk a f s
 |[_,a,e]=>strF M e 20 tk a
 |[_,a]=>match treeF M 60 tk [a] with
  |none=>.fail
  |some js=>.ok js []
 |_=>.fail
inductive RRes
 |ok (jss:eZ (eZ fC))(q:fH)
 |amid (i j:fC)
 |fail
def rowsF(M:Mm):eZ fC->fG->RRes
 |_,[]=>.ok [] []
 |tk,r::rs=>match rowF M tk r with
  |.fail=>.fail
  |.amid j=>.amid 0 j
  |.ok js q=>match rowsF M (tk++js) rs with
   |.ok jss q2=>.ok (js::jss) (q++q2)
   |.amid i j=>.amid (i+1) j
   |.fail=>.fail
section
theorem takeF_some(h:takeF M tk x=eV j):M.num x=eV j/\¬ j∈tk:=by
 unfold takeF at h;split at h;cases h
 split at h;cases h;cases h;exact#[by assumption,by assumption]
theorem getD_some{P:fG}(h:P.getD j []=r)(hn:r≠[]):P[j]?=eV r:=by
 rw[A7] at h;cases hz:P[j]? with|none=>rw[hz] at h;exact fF h.symm hn|some z=>rw[hz] at h;exact fX eV h
theorem some_getD{P:fG}(h:P[j]?=eV r):P.getD j []=r:=by rw[A7,h];rfl
theorem a42(b:∀x i,M.num x=eV i->∃r,M.P[i]?=eV r){lo:fH}(h:liesF M e=eV lo):Lies M.env e lo:=by
 unfold liesF at h;split at h;cases h;exact .nil (by assumption)
 split at h;cases h
 rename_i i hi;let(r,a):=b _ _ hi;split at h;cases h;exact .full (by assumption) hi (by assumption);cases h;rw[some_getD a];exact .ask (by assumption) hi (by assumption) a
theorem aaq(g:∀x i,M.num x=eV i->∃r,M.P[i]?=eV r)(h:passF M j e=.ok a q):Pass M.env j e a q:=by
 unfold passF at h;split at h;rename_i k p f s c;split at h;rename_i b;cases h;let(rfl,h2):=b;exact .cell (getD_some c (by simp)) h2;cases h
 . rename_i k p l c;split at h;rename_i b;subst b;let d:=getD_some c (by simp);split at h;cases h;exact .own d (by assumption);split at h;cases h;cases h;exact .on d (by assumption) (a42 g (by assumption))
   cases h
 cases h
variable{M:Mm} in
theorem a3y(c:∀x i,M.num x=eV i->∃r,M.P[i]?=eV r){e:fS}:∀{n:fC}{tk:eZ fC}{a:fS}{b:eZ fC}{q:fH},strF M e n tk a=.ok b q->StrR M.env e tk a b q
 |0,_,_,_,_,h=>by cases h
 |n+1,tk,a,b,q,h=>by
  unfold strF at h;split at h;cases h;exact .nil (by assumption)
  split at h;cases h
  rename_i j d;let(h1,h2):=takeF_some d;split at h;cases h;cases h
  rename_i f g hp;cases hz:strF M e n (tk++[j]) f with
  |ok js' q2 =>
   rw[hz] at h;cases h;exact .cons (by assumption) h1 h2 (aaq c hp) (a3y c hz)
  |amid _=>rw[hz] at h;cases h
  |fail=>rw[hz] at h;cases h
variable{M:Mm} in
theorem sh:∀{n:fC}{tk:eZ fC}{cs:fJ}{a:eZ fC},treeF M n tk cs=eV a->TreeR M.env tk cs.reverse a
 |0,_,_,_,h=>by cases h
 |n+1,tk,[],a,h=>by cases h;exact .done
 |n+1,tk,x::cs,a,h=>by
  unfold treeF at h;rw[Bw];split at h;exact .nil (by assumption) (sh h)
  split at h;cases h
  rename_i j e;let(h1,h2):=takeF_some e;split at h;rename_i k p d;split at h;rename_i c;let(b,hz,rfl):=DX.mp h;let(rfl,_):=c;exact .tree (by assumption) h1 h2 (getD_some d (by simp)) (sh hz);cases h;rename_i k p f s d;split at h;rename_i c;let(b,hz,rfl):=DX.mp h;let(rfl,_,i,g):=c;let:=sh hz;rw[Bw,Bw,A4] at this;exact .cell (by assumption) h1 h2 (getD_some d (by simp)) i g this;cases h
  cases h
theorem y8(h:givesF M f a=eX):Gives M.env f a:=by
 unfold givesF at h;rw[Ik,Bv] at h;rcases h with z|⟨c,b⟩;exact .inl (fV z);exact .inr #[by simpa using c,b]
theorem ae5(l:∀x i,M.num x=eV i->∃r,M.P[i]?=eV r)(d:(∃a f s,r=[("cell":fS),a,f,s])\/(∃a b,r=[("stretch":fS),a,b])\/∃a,r=[("tree":fS),a])(h:rowF M tk r=.ok c q):RowR M.env tk r c q:=by
 rcases d with⟨a,f,s,rfl⟩|⟨a,b,rfl⟩|⟨a,rfl⟩
 . let h':cellF M tk a f s=.ok c q:=h;unfold cellF at h';split at h';cases h'
   . rename_i j e;let(h1,h2):=takeF_some e;split at h';rename_i k p n s' d;split at h';rename_i g;cases h';let(rfl,g1,m):=g;exact .cell h1 h2 (getD_some d (by simp)) (y8 g1) (y8 m);cases h'
     cases h'
 . exact .str (a3y l h)
 let h':(match treeF M 60 tk [a] with|none=>SRes.fail|some c=>.ok c [])=.ok c q:=h;split at h';cases h';cases h';exact .tree (sh (by assumption))
variable{M:Mm} in
theorem rowsF_ok(e:∀x i,M.num x=eV i->∃r,M.P[i]?=eV r):∀{rs:fG}{tk:eZ fC}{c:eZ (eZ fC)}{q:fH},(∀r∈rs,(∃a f s,r=[("cell":fS),a,f,s])\/(∃a b,r=[("stretch":fS),a,b])\/∃a,r=[("tree":fS),a])->rowsF M tk rs=.ok c q->RowsR M.env tk rs c q
 |[],_,_,_,_,h=>by cases h;exact .nil
 |r::rs,tk,c,q,hr,h=>by
  unfold rowsF at h;split at h;cases h;cases h
  rename_i g j d;split at h;cases h;exact .cons (ae5 e (hr r (Af ..)) d) (rowsF_ok e (λr' h'=>hr r' (Ag _ h')) (by assumption));cases h;cases h
end
end Fol
namespace Fol
open L2 Kn
def exD(v:fS->fB)(s0 s1:fC->fB)(j:fC):fJ->eZ fB
 |[_,p,_,_]=>[v p]
 |[_,p,_]=>[v p,s0 j]
 |[_,p]=>[v p,s0 j,s1 j]
 |_=>[]
inductive PartD(Dm:fS->Prop):fJ->Prop
 |cell{a f s:fS}(h:Dm a)(hf:f="any" \/ Dm f)(hs:s="any" \/ Dm s):PartD Dm [("cell":fS),a,f,s]
 |str{a e:fS}(h:Dm a)(he:Dm e):PartD Dm [("stretch":fS),a,e]
 |tree{a:fS}(h:Dm a):PartD Dm [("tree":fS),a]
def val(v:fS->fB)(bs:fB)(x:fS):fB:=if x="any" then bs else v x
structure Ex(M:Mm)(v:fS->fB)(m:Mem)(bs:fB)(ne:eZ fC)(s0 s1:fC->fB)(Dm:fS->Prop):Prop where
 row:∀(j:fC) r,M.P[j]?=eV r->PartD Dm r
 nil:v "nil"=0
 dnil:Dm "nil"
 any:¬ Dm "any"
 rng:∀x,Dm x->0<=v x/\v x<bs
 al:∀a b,Dm a->Dm b->(M.al a b=eX↔v a=v b)
 num:∀x j,Dm x->M.num x=eV j->j∈ne/\∃r,M.P[j]?=eV r/\v (place r)=v x
 numE:∀x j r,Dm x->j∈ne->M.P[j]?=eV r->v (place r)=v x->M.num x=eV j
 part:∀j∈ne,∃r,M.P[j]?=eV r
 emp:∀j∈ne,∀r,M.P[j]?=eV r->¬ r.getD 0 ""="cell" -> v (place r)≠v (end2 r)
 pl0:∀j∈ne,∀r,M.P[j]?=eV r->v (place r)≠0
 cell:∀j∈ne,∀p f s,M.P[j]?=eV [("cell":fS),p,f,s]->m (v p)=eV (val v bs f,val v bs s)
 str:∀j∈ne,∀p q,M.P[j]?=eV [("stretch":fS),p,q]->m (v p)=eV (bs,s0 j)/\m (s0 j)=eV (bs,v q)
 tree:∀j∈ne,∀p,M.P[j]?=eV [("tree":fS),p]->m (v p)=eV (s0 j,s1 j)/\m (s0 j)=eV (0,0)/\m (s1 j)=eV (0,0)
 only:∀x c,m x=eV c->∃j∈ne,∃r,M.P[j]?=eV r/\x∈exD v s0 s1 j r
 g0:∀j,bs<s0 j
 g1:∀j,bs<s1 j
 i0:∀i j,s0 i=s0 j->i=j
 i1:∀i j,s1 i=s1 j->i=j
 i2:∀i j,s0 i≠s1 j
theorem a7h(a:fS):end2 [("tree":fS),a]="nil" := by unfold end2;rw[fD (by show ¬ ("tree":fS)="stretch";decide)]
section
theorem Ex.pl(X:Ex M v m bs ne s0 s1 Dm){j:fC}(a:M.P[j]?=eV r):Dm (place r):=by
 cases X.row j r a<;>assumption
theorem Ex.one(X:Ex M v m bs ne s0 s1 Dm)(hi:i∈ne)(b:M.P[i]?=eV r)(c:j∈ne)(a:M.P[j]?=eV s)(h:v (place r)=v (place s)):i=j:=by
 let h1:=X.numE (place s) i r (X.pl a) hi b h;let h2:=X.numE (place s) j s (X.pl a) c a rfl;rw[h1] at h2;exact Am h2
theorem oe(h:PartD Dm r)(b:x∈exD v s0 s1 j r):x=v (place r)\/(¬ r.getD 0 ""="cell" /\ x=s0 j)\/(r.getD 0 ""="tree" /\ x=s1 j):=by
 cases h with
 |cell=>exact .inl (Ae.mp b)
 |str =>
  let a:x∈[_,_]:=b;simp only[Ak,Aq,gD] at a;rcases a with z|z;exact .inl z;exact .inr (.inl #[by show ¬ ("stretch":fS)="cell";decide,z])
 |tree =>
  let a:x∈[_,_,_]:=b;simp only[Ak,Aq,gD] at a;rcases a with z|z|z;exact .inl z;exact .inr (.inl #[by show ¬ ("tree":fS)="cell";decide,z]);exact .inr (.inr #[fR,z])
theorem a0k(h:PartD Dm r):v (place r)∈exD v s0 s1 j r:=by
 cases h<;>exact Af ..
theorem Ex.disj(X:Ex M v m bs ne s0 s1 Dm)(hi:i∈ne)(b:M.P[i]?=eV r)(c:j∈ne)(a:M.P[j]?=eV s)(hn:i≠j):∀x∈exD v s0 s1 i r,¬ x∈exD v s0 s1 j s:=λx h1 h2=>by
 let e:=X.g0 i;let f:=X.g0 j;let d:=X.g1 i;let g:=X.g1 j;let h:=X.rng _ (X.pl b);let k:=X.rng _ (X.pl a);rcases oe (X.row i r b) h1 with z|⟨_,z⟩|⟨_,z⟩<;>rcases oe (X.row j s a) h2 with y|⟨_,y⟩|⟨_,y⟩;exact hn (X.one hi b c a (z.symm.trans y));lia;lia;lia;exact hn (X.i0 _ _ (z.symm.trans y));exact X.i2 _ _ (z.symm.trans y);lia;exact X.i2 _ _ (y.symm.trans z);exact hn (X.i1 _ _ (z.symm.trans y))
theorem Ex.noBs(X:Ex M v m bs ne s0 s1 Dm):m bs=eW:=by
 cases h:m bs with
 |none=>rfl
 |some c =>
  let(j,d,r,a,b):=X.only _ _ h;let g0:=X.g0 j;let g1:=X.g1 j;let e:=X.rng _ (X.pl a);rcases oe (X.row j r a) b with z|⟨_,z⟩|⟨_,z⟩<;>lia
theorem Ex.no0(X:Ex M v m bs ne s0 s1 Dm):m 0=eW:=by
 cases h:m 0 with
 |none=>rfl
 |some c =>
  let(j,b,r,a,d):=X.only _ _ h;let g0:=X.g0 j;let g1:=X.g1 j;let e:=X.rng _ (X.pl a);rcases oe (X.row j r a) d with z|⟨_,z⟩|⟨_,z⟩;exact fF z.symm (X.pl0 j b r a);lia;lia
theorem Ex.at_(X:Ex M v m bs ne s0 s1 Dm)(d:Dm x)(h:m (v x)=eV c):∃j∈ne,∃r,M.P[j]?=eV r/\v (place r)=v x/\M.num x=eV j:=by
 let(j,b,r,a,hm):=X.only _ _ h;let g0:=X.g0 j;let g1:=X.g1 j;let e:=X.rng _ d;rcases oe (X.row j r a) hm with z|⟨_,z⟩|⟨_,z⟩;exact#[j,b,r,a,z.symm,X.numE x j r d b a z.symm];lia;lia
theorem Ex.valLe(X:Ex M v m bs ne s0 s1 Dm){x:fS}(h:x="any" \/ Dm x):val v bs x<=bs:=by
 unfold val;split;exact Int.le_refl _
 let:=(X.rng x (h.resolve_left (by assumption))).2
 lia
theorem Ex.pred(X:Ex M v m bs ne s0 s1 Dm){x f s:fB}(h:m x=eV (f,s)){j:fC}{y:fB}(l:y=s0 j\/y=s1 j)(g:f=y\/s=y):∃r,M.P[j]?=eV r/\x=v (place r):=by
 let(i,hi,r,d,k):=X.only _ _ h;let g0:=X.g0 j;let g1:=X.g1 j;let p:=X.g0 i;let o:=X.g1 i;let big:bs<y:=by rcases l with z|z<;>lia
 let u:0<=bs:=by let:=X.rng _ X.dnil;lia
 let same:∀{z:fB},(z=s0 i\/z=s1 i)->z=y->i=j:=λ{z} hz e=>by
  rcases hz with a|a<;>rcases l with b|b;exact X.i0 _ _ (by lia);exact fF (show s0 i=s1 j by lia) (X.i2 _ _);exact fF (show s0 j=s1 i by lia) (X.i2 _ _);exact X.i1 _ _ (by lia)
 let R:=X.row i r d;cases R with
 | @cell a f' s' ha hf hs =>
  let e:x=v a:=Ae.mp k;let n:=X.cell i hi a f' s' d;rw[<- e,h] at n;let:=Am n;let h1:=X.valLe hf;let h2:=X.valLe hs;simp only[Bk] at this
  lia
 | @str a e' ha he =>
  let(h1,h2):=X.str i hi a e' d;let t:=X.rng _ he;let c:x∈[_,_]:=k;simp only[Ak,Aq,gD] at c;rcases c with z|z
  . rw[<- z,h] at h1;let:=Am h1;simp only[Bk] at this;let es:s=y:=by rcases g with q|q<;>lia
    let:=same (z:=s) (.inl this.2) es;subst this;exact#[_,d,z]
  rw[<- z,h] at h2;let:=Am h2;simp only[Bk] at this
  lia
 | @tree a ha =>
  let(h1,h2,h3):=X.tree i hi a d;let c:x∈[_,_,_]:=k;simp only[Ak,Aq,gD] at c;rcases c with z|z|z
  . rw[<- z,h] at h1;let:=Am h1;simp only[Bk] at this;let:i=j:=by
     rcases g with q|q;exact same (z:=f) (.inl this.1) q;exact same (z:=s) (.inr this.2) q
    subst this;exact#[_,d,z]
  . rw[<- z,h] at h2;let:=Am h2;simp only[Bk] at this
    lia
  rw[<- z,h] at h3;let:=Am h3;simp only[Bk] at this
  lia
theorem Ex.ownSeg(X:Ex M v m bs ne s0 s1 Dm){j:fC}{y e x:fB}(d:y=s0 j\/y=s1 j){row:eZ fB}(h:Seg m e x row):x≠y->y∈row->∃r,M.P[j]?=eV r/\v (place r)∈row:=by
 induction h with
 |nil=>intro _ z;cases z
 | @cons x f s row h1 h2 h3 h4 ih =>
  intro hn hm;let b:y∈row:=(Ak.mp hm).resolve_left λz=>hn z.symm;by_cases c:s=y;let(r,a,e):=X.pred h2 d (.inr c);exact#[r,a,by rw[<- e];exact Af ..];let(r,a,z):=ih c b;exact#[r,a,Ag _ z]
theorem Ex.ownTr(X:Ex M v m bs ne s0 s1 Dm){j:fC}{y x:fB}(d:y=s0 j\/y=s1 j){row:eZ fB}(h:Tr m x row):x≠y->y∈row->∃r,M.P[j]?=eV r/\v (place r)∈row:=by
 induction h with
 |nil=>intro _ z;cases z
 | @node x f s r1 r2 h1 h2 t1 t2 n1 n2 n3 i1 i2 =>
  intro hn hm;let b:y∈r1++r2:=(Ak.mp hm).resolve_left λz=>hn z.symm;by_cases c:f=y\/s=y;let(r,a,e):=X.pred h2 d c;exact#[r,a,by rw[<- e];exact Af ..]
  rcases Ab.mp b with z|z;let(r,a,q):=i1 (λq=>c (.inl q)) z;exact#[r,a,Ag _ (Ab.mpr (.inl q))];let(r,a,q):=i2 (λq=>c (.inr q)) z;exact#[r,a,Ag _ (Ab.mpr (.inr q))]
theorem Ex.ownTk(X:Ex M v m bs ne s0 s1 Dm){j:fC}{y:fB}(a:y=s0 j\/y=s1 j){r:fJ}(c:PartD Dm r){row:eZ fB}(h:Tk v m r row)(hm:y∈row):∃r,M.P[j]?=eV r/\v (place r)∈row:=by
 let g0:=X.g0 j;let g1:=X.g1 j;let big:bs<y:=by rcases a with z|z<;>lia
 cases c with
 |cell ha _ _ =>
  let b:=X.rng _ ha;cases h with|cell h _ _=>let:=Ae.mp hm;lia
 |str ha he =>
  let b:=X.rng _ ha;cases h with|str h=>exact X.ownSeg a h (by lia) hm
 |tree ha =>
  let b:=X.rng _ ha;cases h with|tree h=>exact X.ownTr a h (by lia) hm
variable{M:Mm}{v:fS->fB}{m:Mem}{bs:fB}{ne:eZ fC}{s0 s1:fC->fB}{Dm:fS->Prop} in
theorem Ex.own(X:Ex M v m bs ne s0 s1 Dm){G S:fG}{R:fC->eZ fB}(h:Fits v m G S R)(t:∀r∈S,PartD Dm r){i:fC}{r:fJ}(hi:S[i]?=eV r){j:fC}{p:fJ}(o:j∈ne)(hp:M.P[j]?=eV p)(hm:v (place p)∈R i):∀x∈exD v s0 s1 j p,x∈R i:=λx g=>by
 let sp:∀y,(y=s0 j\/y=s1 j)->(∃c,m y=eV c)->y∈R i:=λy q l=>by
  let(c,l):=l;let(k,s,n,d):=h.whole y c l;let(w,f,u):=X.ownTk q (t s (Ar n)) (h.tk k s n) d;rw[hp] at f;cases f;by_cases c:k=i;subst c;exact d;exact fF hm (h.apart k i s r n hi c _ u)
 cases X.row j p hp with
 |cell=>rw[Ae.mp g];exact hm
 | @str a e _ _ =>
  let(h1,h2):=X.str j o _ _ hp;let b:x∈[_,_]:=g;simp only[Ak,Aq,gD] at b;rcases b with rfl|rfl;exact hm;exact sp _ (.inl rfl) #[_,h2]
 | @tree a _ =>
  let(h1,h2,h3):=X.tree j o _ hp;let b:x∈[_,_,_]:=g;simp only[Ak,Aq,gD] at b;rcases b with rfl|rfl|rfl;exact hm;exact sp _ (.inl rfl) #[_,h2];exact sp _ (.inr rfl) #[_,h3]
end
end Fol
namespace Fol
open L2 Kn
section
def OwnS(M:Mm)(v:fS->fB)(ne:eZ fC)(s0 s1:fC->fB)(row:eZ fB)(tk:eZ fC):Prop:=∀j∈ne,¬ j∈tk->∀p,M.P[j]?=eV p->v (place p)∈row->∀x∈exD v s0 s1 j p,x∈row
def Dis(M:Mm)(v:fS->fB)(s0 s1:fC->fB)(row:eZ fB)(tk:eZ fC):Prop:=∀j∈tk,∀p,M.P[j]?=eV p->∀x∈exD v s0 s1 j p,¬ x∈row
structure TkO(M:Mm)(ne tk:eZ fC):Prop where
 nd:tk.Nodup
 ne:∀j∈tk,j∈ne
theorem Ex.few(X:Ex M v m bs ne s0 s1 Dm)(h:TkO M ne tk):tk.length<=M.P.length:=by
 let:=ut (m:=Bb M.P.length) h.nd λj a=>by
  let(r,b):=X.part j (h.ne j a);exact Br.mpr (Ao.mp b).1
 rwa [B6] at this
variable{M:Mm}{ne:eZ fC} in
theorem TkO.put{tk:eZ fC}(h:TkO M ne tk){j:fC}(c:j∈ne)(hn:¬ j∈tk):TkO M ne (tk++[j]):=#[AN.mpr #[h.nd,AK.mpr #[Aq,Bh],λa f b d e=>hn (by rw[<- Ae.mp d,<- e];exact f)],λi hi=>by
 rcases Ab.mp hi with z|z;exact h.ne i z
 rw[Ae.mp z];exact c]
theorem Ex.step(X:Ex M v m bs ne s0 s1 Dm){tk:eZ fC}(T:TkO M ne tk){j:fC}{p:fJ}(d:j∈ne)(hp:M.P[j]?=eV p){row rest:eZ fB}(f:row=exD v s0 s1 j p++rest)(hn:row.Nodup)(O:OwnS M v ne s0 s1 row tk)(D:Dis M v s0 s1 row tk):OwnS M v ne s0 s1 rest (tk++[j])/\Dis M v s0 s1 rest (tk++[j]):=by
 subst f;let hd:=(AN.mp hn).2.2;refine#[λi hi hit s a hm x b=>?_,λi hi s a x b z=>?_];let c:i≠j:=λe=>hit (Ab.mpr (.inr (Ae.mpr e)));let:=O i hi (λz=>hit (Ab.mpr (.inl z))) s a (Ab.mpr (.inr hm)) x b;exact(Ab.mp this).resolve_left (X.disj hi a d hp c x b)
 rcases Ab.mp hi with y|y;exact D i y s a x b (Ab.mpr (.inr z));rw[Ae.mp y,hp] at a;cases a;rw[Ae.mp y] at b;exact hd x b x z rfl
theorem Ex.take(X:Ex M v m bs ne s0 s1 Dm){tk:eZ fC}{x:fS}(d:Dm x){row:eZ fB}(D:Dis M v s0 s1 row tk)(hm:v x∈row){c:fB×fB}(h:m (v x)=eV c):∃j∈ne,∃p,M.P[j]?=eV p/\v (place p)=v x/\takeF M tk x=eV j/\¬ j∈tk:=by
 let(j,b,p,hp,hv,hn):=X.at_ d h;let a:¬ j∈tk:=λz=>D j z p hp _ (a0k (X.row j p hp)) (by rw[hv];exact hm);refine#[j,b,p,hp,hv,?_,a];unfold takeF;rw[hn];show(if j∈tk then eW else eV j)=eV j;rw[fD a]
def Cov(M:Mm)(v:fS->fB)(s0 s1:fC->fB)(row:eZ fB)(js:eZ fC):Prop:=∀x,x∈row↔∃j∈js,∃p,M.P[j]?=eV p/\x∈exD v s0 s1 j p
theorem Cov.cons{M:Mm}{v:fS->fB}{s0 s1:fC->fB}{j:fC}{p:fJ}(hp:M.P[j]?=eV p){row rest:eZ fB}(d:row=exD v s0 s1 j p++rest){c:eZ fC}(h:Cov M v s0 s1 rest c):Cov M v s0 s1 row (j::c):=λx=>by
 subst d;rw[Ab,h x];constructor;rintro (z|⟨i,hi,s,a,b⟩);exact#[j,Af ..,p,hp,z];exact#[i,Ag _ hi,s,a,b]
 rintro⟨i,hi,s,a,b⟩;rcases Ak.mp hi with rfl|hi;rw[hp] at a;cases a;exact .inl b;exact .inr #[i,hi,s,a,b]
structure Ok(M:Mm)(v:fS->fB)(ne:eZ fC)(s0 s1:fC->fB)(row:eZ fB)(tk js:eZ fC)(q:fH):Prop where
 ask:∀p∈q,v p.1≠v p.2
 cov:Cov M v s0 s1 row js
 tk:TkO M ne (tk++js)
structure Amid(M:Mm)(v:fS->fB)(ne:eZ fC)(row:eZ fB)(e:fS)(j:fC):Prop where
 jn:j∈ne
 ex:∃p q,M.P[j]?=eV [("stretch":fS),p,q]/\v q≠v e/\v p≠v e/\v p∈row
 nil:v e≠0
 num:M.num e=eW
theorem seg_nil(h:Seg m e x row)(a:x=e):row=[]:=by
 cases h with|nil=>rfl|cons h1 _ _ _=>exact fF a h1
variable{M:Mm}{v:fS->fB}{m:Mem}{bs:fB}{ne:eZ fC}{s0 s1:fC->fB}{Dm:fS->Prop} in
theorem aar(X:Ex M v m bs ne s0 s1 Dm){e:fS}(L:Dm e):∀(n:fC) (tk:eZ fC) (a:fS) (row:eZ fB),Dm a->Seg m (v e) (v a) row->OwnS M v ne s0 s1 row tk->Dis M v s0 s1 row tk->TkO M ne tk->M.P.length<n+tk.length->
 (∃G q,strF M e n tk a=.ok G q/\Ok M v ne s0 s1 row tk G q)\/∃j,strF M e n tk a=.amid j/\Amid M v ne row e j:=by
 let re:=X.rng _ L;intro n;induction n with
 |zero=>intro tk a row Z W O D T hl;let:=X.few T;lia
 |succ n ih =>
  intro tk a row Z W O D T hl;let ac:=W.nodup;unfold strF;by_cases c:M.al a e=eX;rw[fE c];let hv:=(X.al a e Z L).mp c;refine .inl #[[],[],fR,λp hp=>(by cases hp),?_,by rw[A2];exact T];rw[seg_nil W hv];exact λx=>#[λz=>(by cases z),λ⟨j,F,_⟩=>(by cases F)]
  rw[fD c];let hv:v a≠v e:=λz=>c ((X.al a e Z L).mpr z);obtain⟨f,s,h,rfl,h2,o⟩:∃f s h,row=v a::h/\m (v a)=eV (f,s)/\Seg m (v e) s h:=by
   generalize hx:v a=x at W hv;cases W with|nil=>exact fF rfl hv|cons h1 h2 h3 Y=>exact#[_,_,_,fR,h2,Y]
  let(j,F,p,hp,H,ht,U):=X.take Z D (Af ..) h2;rw[ht];let own:=O j F U p hp (by rw[H];exact Af ..);let S:M.P.length<n+(tk++[j]).length:=by rw[Aj,Av];lia
  let T':=T.put F U;let I:∀(A:fS) (B:fH) (rest:eZ fB),Dm A->Seg m (v e) (v A) rest->v a::h=exD v s0 s1 j p++rest->(∀y∈B,v y.1≠v y.2)->passF M j e=.ok A B->
   (∃G q,(match passF M j e with|.fail=>SRes.fail|.amid=>.amid j|.ok A B=>(strF M e n (tk++[j]) A).put j B)=.ok G q/\Ok M v ne s0 s1 (v a::h) tk G q)\/∃i,(match passF M j e with|.fail=>SRes.fail|.amid=>.amid j|.ok A B=>(strF M e n (tk++[j]) A).put j B)=.amid i/\Amid M v ne (v a::h) e i:=λA B rest ag ae k af t=>by
   let(O',D'):=X.step T F hp k ac O D;rw[t];rcases ih (tk++[j]) A rest ag ae O' D' T' S with⟨G,q,e1,ok⟩|⟨i,e1,am⟩
   . refine .inl #[j::G,B++q,by show(strF M e n (tk++[j]) A).put j B=_;rw[e1];rfl,λy w=>?_,ok.cov.cons hp k,by let:=ok.tk;rwa [A4] at this];exact(Ab.mp w).elim (af y) (ok.ask y)
   refine .inr #[i,by show(strF M e n (tk++[j]) A).put j B=_;rw[e1];rfl,am.jn,?_,am.nil,am.num];let(p',l,g1,g2,g3,R):=am.ex;exact#[p',l,g1,g2,g3,by rw[k];exact Ab.mpr (.inr R)]
  show(∃G q,(match passF M j e with|.fail=>SRes.fail|.amid=>.amid j|.ok A B=>(strF M e n (tk++[j]) A).put j B)=.ok G q/\_)\/_;cases X.row j p hp with
  | @cell p f' s' dp df ds =>
   let hc:=X.cell j F p f' s' hp;let d:v p=v a:=H;rw[d,h2] at hc;let J:=Am hc;simp only[Bk] at J;let C:¬ s'="any" := λz=>by
    let:s=bs:=by rw[J.2];unfold val;rw[fE z]
    rw[this] at o;cases o with|nil=>lia|cons _ g _ _=>rw[X.noBs] at g;cases g
   let es:s=v s':=by rw[J.2];unfold val;rw[fD C]
   refine I s' [(p,e)] h (ds.resolve_left C) (es ▸ o) (by show _=[v p]++h;rw[d];rfl) (λy w=>by rw[Ae.mp w];show v p≠v e;rw[d];exact hv) ?_;unfold passF;rw[some_getD hp];show(if("cell":fS)="cell" /\ ¬ s'="any" then PRes.ok s' [(p,e)] else .fail)=_;rw[fE #[fR,C]]
  | @str p l dp dq =>
   let(h3,Y):=X.str j F p l hp;let d:v p=v a:=H;rw[d,h2] at h3;let E:=Am h3;simp only[Bk] at E;rw[E.2] at o;let g0:=X.g0 j;obtain⟨b,rfl,u⟩:∃b,h=s0 j::b/\Seg m (v e) (v l) b:=by
    generalize w:s0 j=y at o Y g0;cases o with
    |nil=>lia
    |cons _ g _ R =>
     rw[Y] at g;let:=Am g;simp only[Bk] at this;exact#[_,fR,by rw[this.2];exact R]
   let k:v a::s0 j::b=exD v s0 s1 j [("stretch":fS),p,l]++b:=by show _=[v p,s0 j]++b;rw[d];rfl
   by_cases cq:M.al l e=eX;refine I l [] b dq u k (λy w=>(by cases w)) ?_;unfold passF;rw[some_getD hp];show(if("stretch":fS)="stretch" then(if M.al l e=eX then PRes.ok l [] else _) else _)=_;rw[fE rfl,fE cq]
   let ah:v l≠v e:=λz=>cq ((X.al l e dq L).mpr z);cases hl:liesF M e with
   |none =>
    let t:passF M j e=.amid:=by
     unfold passF;rw[some_getD hp];show(if("stretch":fS)="stretch" then(if M.al l e=eX then PRes.ok l [] else match liesF M e with|none=>PRes.amid|some lo=>.ok l ((p,e)::lo)) else _)=_;rw[fE rfl,fD cq,hl]
    rw[t];unfold liesF at hl;split at hl;cases hl
    rename_i Q;split at hl;rename_i ab;refine .inr #[j,(by rw[t]),F,#[p,l,hp,ah,by rw[d];exact hv,by rw[d];exact Af ..],λz=>Q ((X.al e "nil" L X.dnil).mpr (z.trans X.nil.symm)),ab];split at hl<;>cases hl
   |some lo =>
    refine I l ((p,e)::lo) b dq u k (λy w=>?_) ?_
    . rcases Ak.mp w with rfl|w;show v p≠v e;rw[d];exact hv
      . unfold liesF at hl;split at hl;cases hl;cases w
        . split at hl;cases hl
          . rename_i i hi;let(N,r,hr,_):=X.num e i L hi;split at hl;cases hl;cases w
            . cases hl;rw[Ae.mp w,some_getD hr];show v (place r)≠v (end2 r);by_cases ck:r.getD 0 ""="cell"
              . let:end2 r="nil" := by unfold end2;rw[fD (by rw[ck];decide)]
                rw[this,X.nil];exact X.pl0 i N r hr
              exact X.emp i N r hr ck
    unfold passF;rw[some_getD hp];show(if("stretch":fS)="stretch" then(if M.al l e=eX then PRes.ok l [] else match liesF M e with|none=>PRes.amid|some lo=>.ok l ((p,e)::lo)) else _)=_;rw[fE rfl,fD cq,hl]
  | @tree p dp =>
   exfalso;let(h3,Y,h5):=X.tree j F p hp;let d:v p=v a:=H;rw[d,h2] at h3;let E:=Am h3;simp only[Bk] at E;rw[E.2] at o;let g0:=X.g0 j;let g1:=X.g1 j;let ra:=X.rng _ Z;let aa:s0 j∈v a::h:=own _ (Ag _ (Af ..));obtain⟨b,rfl,u⟩:∃b,h=s1 j::b/\Seg m (v e) 0 b:=by
    generalize w:s1 j=y at o h5 g1;cases o with
    |nil=>lia
    |cons _ g _ R =>
     rw[h5] at g;let:=Am g;simp only[Bk] at this;exact#[_,fR,by rw[this.2];exact R]
   let:b=[]:=by
    generalize hz:(0:fB)=z at u;cases u with|nil=>rfl|cons _ g _ _=>rw[<- hz,X.no0] at g;cases g
   subst this;simp only[Ak,Aq,gD] at aa;rcases aa with z|z;lia;exact X.i2 _ _ z
end
end Fol
namespace Fol
open L2 Kn
theorem Forest.nodup(h:Forest m xs row):row.Nodup:=by
 induction h with|nil=>exact Bh|cons h _ h3 ih=>exact AN.mpr #[h.nodup,ih,λa d b c e=>h3 a d (e ▸ c)]
theorem ri(h:Tr m x row)(n:x≠0):∃f s r1 r2,row=x::(r1++r2)/\m x=eV (f,s)/\Tr m f r1/\Tr m s r2/\(∀y∈r1,¬ y∈r2):=by
 cases h with|nil=>exact fF rfl n|node h1 h2 t1 t2 n1 n2 n3=>exact#[_,_,_,_,fR,h2,t1,t2,n3]
theorem qw(h:Tr m x row)(e:x=0):row=[]:=by
 cases h with|nil=>rfl|node h1=>exact fF e h1
theorem a62(X:Ex M v m bs ne s0 s1 Dm):∀(n:fC) (tk:eZ fC) (cs:fJ) (row:eZ fB),(∀x∈cs,Dm x)->Forest m (cs.map v) row->OwnS M v ne s0 s1 row tk->Dis M v s0 s1 row tk->TkO M ne tk->2*M.P.length+cs.length<n+2*tk.length->
 ∃o,treeF M n tk cs=eV o/\Ok M v ne s0 s1 row tk o []:=by
 let rn:=X.rng _ X.dnil;let vn:=X.nil;intro n;induction n with
 |zero=>intro tk cs row _ _ _ _ T hl;let:=X.few T;lia
 |succ n ih =>
  intro tk cs row N hF O D T hl;cases cs with
  |nil =>
   let G:Forest m [] row:=hF;cases G;exact#[[],fR,λp hp=>(by cases hp),λx=>#[λz=>(by cases z),λ⟨j,F,_⟩=>(by cases F)],by rw[A2];exact T]
  |cons x cs =>
   let R:=N x (Af ..);let A:∀y∈cs,Dm y:=λy b=>N y (Ag _ b);let rx:=X.rng _ R;let(r1,r2,rfl,t,Y,d):=ki (show Forest m (v x::cs.map v) row from hF);let W:=hF.nodup;let S:(x::cs).length=cs.length+1:=rfl;rw[S] at hl;unfold treeF;by_cases c:M.al x "nil"=eX;rw[fE c];let hv:=(X.al x "nil" R X.dnil).mp c;let e1:=qw t (hv.trans vn);subst e1;exact ih tk cs r2 A Y O D T (by lia)
   rw[fD c];let hv:v x≠0:=λz=>c ((X.al x "nil" R X.dnil).mpr (z.trans vn.symm));let(f,s,ra,rb,rfl,h2,I,Q,U):=ri t hv;let(j,F,p,hp,H,ht,aa):=X.take R D (Ab.mpr (.inl (Af ..))) h2;rw[ht];show ∃o,(match M.P.getD j [] with
    |[k,p]=>if k="tree" /\ ¬ p="any" then(treeF M n (tk++[j]) cs).map (j :: ·) else eW
    |[k,p,f,s]=>if k="cell" /\ ¬ p="any" /\ ¬ f="any" /\ ¬ s="any" then(treeF M n (tk++[j]) (f::s::cs)).map (j :: ·) else eW
    |_=>eW)=eV o/\_
   rw[some_getD hp];let T':=T.put F aa;let ab:(tk++[j]).length=tk.length+1:=by rw[Aj,Av]
   let L:∀(q:fJ) (rest:eZ fB),(∀y∈q,Dm y)->Forest m (q.map v) rest->v x::(ra++rb)++r2=exD v s0 s1 j p++rest->q.length<=cs.length+2->∃o,(treeF M n (tk++[j]) q).map (j :: ·)=eV o/\Ok M v ne s0 s1 (v x::(ra++rb)++r2) tk o []:=λq rest i G B ae=>by
    let(O',D'):=X.step T F hp B W O D;let(o,e1,ok):=ih (tk++[j]) q rest i G O' D' T' (by rw[ab];lia);exact#[j::o,by rw[e1];rfl,λp hp=>(by cases hp),ok.cov.cons hp B,by let:=ok.tk;rwa [A4] at this]
   let C:∀{y:fS},Dm y->¬ y="any" := λ{y} b e=>X.any (e ▸ b);let noBs:∀{r:eZ fB},¬ Tr m bs r:=λ{r} h=>by
    let(_,_,_,_,_,g,_):=ri h (by lia);rw[X.noBs] at g;cases g
   cases X.row j p hp with
   | @cell p J s' dp df ds =>
    let hc:=X.cell j F p J s' hp;let a:v p=v x:=H;rw[a,h2] at hc;let i:=Am hc;simp only[Bk] at i;let fn:¬ J="any" := λz=>by
     let e:f=bs:=by rw[i.1];unfold val;rw[fE z]
     exact noBs (e ▸ I)
    let sn:¬ s'="any" := λz=>by
     let e:s=bs:=by rw[i.2];unfold val;rw[fE z]
     exact noBs (e ▸ Q)
    let ef:f=v J:=by rw[i.1];unfold val;rw[fD fn]
    let es:s=v s':=by rw[i.2];unfold val;rw[fD sn]
    let ac:=df.resolve_left fn;let Z:=ds.resolve_left sn;show ∃o,(if("cell":fS)="cell" /\ ¬ p="any" /\ ¬ J="any" /\ ¬ s'="any" then(treeF M n (tk++[j]) (J::s'::cs)).map (j :: ·) else eW)=eV o/\_;rw[fE #[fR,C dp,fn,sn]];refine L (J::s'::cs) (ra++(rb++r2)) (λy b=>?_) ?_ (by show _=[v p]++_;rw[a];simp) (An _);rcases Ak.mp b with rfl|b;exact ac;rcases Ak.mp b with rfl|b;exact Z;exact A y b
    refine .cons (ef ▸ I) (.cons (es ▸ Q) Y λy b=>d y (Ag _ (Ab.mpr (.inr b)))) λy b z=>?_;rcases Ab.mp z with z|z;exact U y b z;exact d y (Ag _ (Ab.mpr (.inl b))) z
   | @str p q' dp dq =>
    exfalso;let(h3,_):=X.str j F p q' hp;let a:v p=v x:=H;rw[a,h2] at h3;let l:=Am h3;simp only[Bk] at l;rw[l.1] at I;exact noBs I
   | @tree p dp =>
    let(h3,h4,h5):=X.tree j F p hp;let a:v p=v x:=H;rw[a,h2] at h3;let l:=Am h3;simp only[Bk] at l;rw[l.1] at I;rw[l.2] at Q;let g0:=X.g0 j;let g1:=X.g1 j;let E:∀{y:fB} {r:eZ fB},Tr m y r->y≠0->m y=eV (0,0)->r=[y]:=λ{y r} h b hm=>by
     let(f,s,u,w,rfl,g,tu,tw,_):=ri h b;rw[hm] at g;let:=Am g;simp only[Bk] at this;rw[qw tu this.1.symm,qw tw this.2.symm];rfl
    let ea:=E I (by lia) h4;let eb:=E Q (by lia) h5;subst ea eb;show ∃o,(if("tree":fS)="tree" /\ ¬ p="any" then(treeF M n (tk++[j]) cs).map (j :: ·) else eW)=eV o/\_;rw[fE #[fR,C dp]];exact L cs r2 A Y (by show _=[v p,s0 j,s1 j]++r2;rw[a];rfl) (by lia)
theorem a8w(X:Ex M v m bs ne s0 s1 Dm)(S:M.P.length<=15)(J:PartD Dm r)(h:Tk v m r row)(O:OwnS M v ne s0 s1 row tk)(D:Dis M v s0 s1 row tk)(T:TkO M ne tk):
 (∃i q,rowF M tk r=.ok i q/\Ok M v ne s0 s1 row tk i q)\/∃a e j,r=[("stretch":fS),a,e]/\rowF M tk r=.amid j/\Amid M v ne row e j:=by
 cases J with
 | @cell a f s ha hf hs =>
  refine .inl ?_;generalize hrow:row=C at h;cases h with
  | @cell _ _ _ x y g1 g2 g3 =>
   subst hrow;let(j,l,p,hp,t,G,n):=X.take ha D (Af ..) g1;let own:=O j l n p hp (by rw[t];exact Af ..);let R:=X.rng _ ha;let g0:=X.g0 j;cases X.row j p hp with
   | @cell p f' s' dp df ds =>
    let B:=X.cell j l p f' s' hp;let b:v p=v a:=t;rw[b,g1] at B;let d:=Am B;simp only[Bk] at d;let E:∀{w g:fS} {z:fB},(w="any" \/ v w=z)->(w="any" \/ Dm w)->(g="any" \/ Dm g)->z=val v bs g->givesF M g w=eX:=λ{w g z} h1 h2 h3 o=>by
     unfold givesF;by_cases c:w="any";rw[fU c];rfl
     let e:=h1.resolve_left c;let F:=h2.resolve_left c;let H:=X.rng _ F;let u:¬ g="any" := λI=>by
      unfold val at o;rw[fE I] at o
      lia
     unfold val at o;rw[fD u] at o;rw[fT c,fT u,(X.al g w (h3.resolve_left u) F).mpr (o.symm.trans e.symm)];rfl
    refine#[[j],[],?_,λp hp=>(by cases hp),(Cov.cons hp (rest:=[]) (by show _=[v p]++[];rw[b];rfl) λx=>#[λz=>(by cases z),λ⟨j,l,_⟩=>(by cases l)]),T.put l n];show cellF M tk a f s=_;unfold cellF;rw[G];show(match M.P.getD j [] with | [k,_,f',s']=>if k="cell" /\ givesF M f' f=eX/\givesF M s' s=eX then SRes.ok [j] [] else .fail|_=>.fail)=_;rw[some_getD hp];show(if("cell":fS)="cell" /\ givesF M f' f=eX/\givesF M s' s=eX then SRes.ok [j] [] else .fail)=_;rw[fE #[fR,E g2 hf df d.1,E g3 hs ds d.2]]
   | @str p q' dp dq =>
    exfalso;let:=own (s0 j) (Ag _ (Af ..));let:=Ae.mp this
    lia
   | @tree p dp =>
    exfalso;let:=own (s0 j) (Ag _ (Af ..));let:=Ae.mp this
    lia
 | @str a e ha he =>
  cases h with
  |str h =>
   rcases aar X he 20 tk a row ha h O D T (by lia) with z|⟨j,N,Q⟩;exact .inl z;exact .inr #[a,e,j,fR,N,Q]
 | @tree a ha =>
  cases h with
  |tree h =>
   let hF:Forest m ([a].map v) row:=by
    let:=Forest.cons h (Forest.nil (m:=m)) (λy A z=>by cases z);rw[A2] at this;exact this
   let(i,L,ok):=a62 X 60 tk [a] row (λy A=>by rw[Ae.mp A];exact ha) hF O D T (by show 2*M.P.length+1<_;lia);refine .inl #[i,[],?_,ok];show(match treeF M 60 tk [a] with|none=>SRes.fail|some i=>.ok i [])=_;rw[L]
end Fol
namespace Fol
open L2 Kn
section
variable{M:Mm}{v:fS->fB}{m:Mem}{bs:fB}{ne:eZ fC}{s0 s1:fC->fB}{Dm:fS->Prop}{G S:fG}{R:fC->eZ fB} in
theorem rowsF_fit(X:Ex M v m bs ne s0 s1 Dm)(N:M.P.length<=15)(h:Fits v m G S R)(B:∀r∈S,PartD Dm r):∀(rs:fG) (i0:fC) (tk:eZ fC),(∀i,rs[i]?=S[i0+i]?)->(∀k r,i0<=k->S[k]?=eV r->Dis M v s0 s1 (R k) tk)->TkO M ne tk->
 (∃b q,rowsF M tk rs=.ok b q/\(∀p∈q,v p.1≠v p.2)/\∀k r,i0<=k->S[k]?=eV r->∀j∈ne,∀p,M.P[j]?=eV p->v (place p)∈R k->∃d∈b,j∈d)\/
 ∃i j a e,rowsF M tk rs=.amid i j/\S[i0+i]?=eV [("stretch":fS),a,e]/\Amid M v ne (R (i0+i)) e j
 |[],i0,tk,hrs,_,_=>.inl #[[],[],fR,λp hp=>(by cases hp),λk r J f=>by
  let:=hrs (k-i0);rw[show i0+(k-i0)=k by lia,f] at this;simp at this]
 |r::rs,i0,tk,hrs,hD,T=>by
  let f:S[i0]?=eV r:=by let:=hrs 0;simpa using this.symm
  let D:=B r (Ar f);let O:OwnS M v ne s0 s1 (R i0) tk:=λj g _ p hp hm=>X.own h B f g hp hm;unfold rowsF;rcases a8w X N D (h.tk i0 r f) O (hD i0 r (An _) f) T with⟨d,q,C,ok⟩|⟨a,e,j,rfl,C,am⟩
  . rw[C];let L:=ok.cov;let Q:=rowsF_fit X N h B rs (i0+1) (tk++d) (λi=>by let:=hrs (i+1);rw[DR] at this;rw[this];congr 1;lia) (λk s J n j g p hp x w z=>by
     rcases Ab.mp g with y|y;exact hD k s (by lia) n j y p hp x w z
     exact h.apart i0 k r s f n (by lia) x ((L x).mpr #[j,y,p,hp,w]) z) ok.tk
    rcases Q with⟨b,u,E,U,t⟩|⟨i,j,a,e,E,n,am⟩
    . refine .inl #[d::b,q++u,by show(match rowsF M (tk++d) rs with|.ok b u=>RRes.ok (d::b) (q++u)|.amid i j=>.amid (i+1) j|.fail=>.fail)=_;rw[E],λp hp=>(Ab.mp hp).elim (ok.ask p) (U p),λk s J n j g p hp hm=>?_];by_cases c:k=i0;subst c;let(I,o,W,F,w):=(L _).mp hm;exists d,Af ..;by_cases H:j=I;subst H;exact o;exact fF w (X.disj g hp (ok.tk.ne I (Ab.mpr (.inr o))) F H _ (a0k (X.row j p hp)))
      let(l,hl,A):=t k s (by lia) n j g p hp hm;exact#[l,Ag _ hl,A]
    refine .inr #[i+1,j,a,e,by show(match rowsF M (tk++d) rs with|.ok b u=>RRes.ok (d::b) (q++u)|.amid i j=>.amid (i+1) j|.fail=>.fail)=_;rw[E],?_,?_];rw[show i0+(i+1)=i0+1+i by lia];exact n;rw[show i0+(i+1)=i0+1+i by lia];exact am
  rw[C];exact .inr #[0,j,a,e,fR,f,am]
structure Moved(v:fS->fB)(m m':Mem)(bs:fB)(s:fB)(p q e:fS):Prop where
 h1:m' (v p)=eV (bs,v e)
 h2:m' (v e)=eV (bs,v q)
 h3:m' s=eW
 same:∀x,x≠v p->x≠v e->x≠s->m' x=m x
theorem Seg.noEnd(h:Seg m e x row):∀y∈row,y≠e:=by
 induction h with
 |nil=>intro y a;cases a
 |cons h1 _ _ _ ih =>
  intro y a;rcases Ak.mp a with rfl|z;exact h1;exact ih y z
theorem a63(C:Moved v m g bs s p q e)(hn:m (v e)=eW)(h:Seg m d x row):∀{a:eZ fB},Seg g d x a->v e∈a->v p∈row:=by
 induction h with
 |nil=>intro a h' hm;rw[seg_nil h' rfl] at hm;cases hm
 | @cons x f s2 row g1 g2 g3 g4 ih =>
  intro a h' hm;cases h' with
  |nil=>exact fF rfl g1
  | @cons _ f' s' row1 k1 k2 k3 k4 =>
   let nx:x≠v e:=λz=>by rw[z,hn] at g2;cases g2
   by_cases c:x=v p;rw[c];exact Af ..
   let ns:x≠s:=λz=>by rw[z,C.h3] at k2;cases k2
   let b:v e∈row1:=(Ak.mp hm).resolve_left λz=>nx z.symm;rw[C.same x c nx ns,g2] at k2;let:=Am k2;simp only[Bk] at this;exact Ag _ (ih (this.2 ▸ k4) b)
theorem a97(C:Moved v m k bs s p q e)(hn:m (v e)=eW)(hp:m (v p)=eV (bs,s))(g:m bs=eW)(b:bs≠0)(h:Tr m x row):∀{a:eZ fB},Tr k x a->¬ v e∈a:=by
 induction h with
 |nil=>intro a h' hm;rw[qw h' rfl] at hm;cases hm
 | @node x f s2 r1 r2 g1 g2 t1 t2 n1 n2 n3 i1 i2 =>
  intro a h' hm;let(l,s',u,w,rfl,k2,j,i,_):=ri h' g1;let nx:x≠v e:=λz=>by rw[z,hn] at g2;cases g2
  by_cases c:x=v p;rw[c,hp] at g2;let:=Am g2;simp only[Bk] at this;rw[<- this.1] at t1;let(_,_,_,_,_,z,_):=ri t1 b;rw[g] at z;cases z
  let ns:x≠s:=λz=>by rw[z,C.h3] at k2;cases k2
  rw[C.same x c nx ns,g2] at k2;let:=Am k2;simp only[Bk] at this;let d:=(Ak.mp hm).resolve_left λz=>nx z.symm;rcases Ab.mp d with z|z;exact i1 (this.1 ▸ j) z;exact i2 (this.2 ▸ i) z
theorem amid_no(X:Ex M v m bs ne s0 s1 Dm)(h:Fits v m G S R)(w:∀r∈S,PartD Dm r)(hi:S[i]?=eV [("stretch":fS),a,e])(A:Amid M v ne (R i) e j)(n:M.P[j]?=eV [("stretch":fS),p,q])(C:Moved v m s bs (s0 j) p q e)(h':Fits v s G S u):False:=by
 let x:Dm e:=by
  generalize hr:[("stretch":fS),a,e]=r at hi;cases w r (Ar hi) with|cell=>cases hr|str _ z=>cases hr;exact z|tree=>cases hr
 let hn:m (v e)=eW:=by
  cases hz:m (v e) with
  |none=>rfl
  |some c =>
   let(_,_,_,_,_,z):=X.at_ x hz;rw[A.num] at z;cases z
 let(D,y,b,_,_,hm):=A.ex;rw[n] at b;cases b;let(g1,_):=X.str j A.jn p q n;let t:bs≠0:=by let:=X.rng _ X.dnil;lia
 let(k,r,f,d):=h'.whole _ _ C.h2;let T:=h.tk k r f;let l:=h'.tk k r f;generalize hRk:R k=B at T;generalize hRk':u k=o at l d;cases T with
 |cell g _ _ =>
  cases l with
  |cell _ _ _ =>
   let:=Ae.mp d;rw[<- this,hn] at g;cases g
 | @str a' e' row g =>
  cases l with
  |str g' =>
   let hp:=a63 C hn g g' d;by_cases c:k=i;subst c;rw[f] at hi;cases hi;exact g'.noEnd _ d rfl;exact h.apart k i _ _ f hi c (v p) (by rw[hRk];exact hp) hm
 |tree g =>
  cases l with|tree g'=>exact a97 C hn g1 X.noBs t g g' d
end
end Fol
namespace K37
open L2 Mir Kn
abbrev a6p:JA:=ir (top 20) 12
abbrev a70:JA:=ir (top 26) 0
abbrev abr:JA:=ir (top 26) 1
abbrev a3g:JA:=ir (top 26) 2
abbrev acf:JA:=ir (top 26) 3
abbrev a6i:JA:=ir (top 26) 4
abbrev a5n:JA:=ir (top 26) 5
abbrev ac3:JA:=ir (top 26) 6
abbrev a41:JA:=ir (top 26) 7
abbrev acg:JA:=ir (top 26) 8
abbrev a6u:JA:=ir (top 26) 9
abbrev a5k:JA:=ir (top 26) 10
abbrev a2g:JA:=ir (top 26) 11
abbrev a33:JA:=ir (top 26) 12
inductive KwAt_ex(K:Aa)(C:IS)(H:Hp)(p:IS)(F:fG)(P:fG):Prop
 |mk (pl hd un fu D L Fl)(h0:KnS K C H p pl hd un fu F P L)(h1:NeAt C H p pl hd un fu D (neOf F P))(h2:H fu=eV (.dK (fk Fl)))(h3:AllTold F P L Fl)(h4:Going F P L Fl)(h5:L.length<=400):KwAt_ex K C H p F P
structure KwAt(K:Aa)(C:IS)(H:Hp)(p:IS)(F P:fG):Prop where
 ex:KwAt_ex K C H p F P
theorem KwAt.same(h:KwAt K C H p F P)(e:Same H H'):KwAt K C H' p F P:=by
 let(pl,hd,un,d,D,L,Fl,h1,h2,h3,a,c,b):=h.ex;exact#[pl,hd,un,d,D,L,Fl,h1.same e,h2.same e,e _ _ h3,a,c,b]
theorem o0:∀j∈neOf F P,j<P.length:=λj a=>Br.mp (Bc.mp a).1
theorem u4(h:P.length<=15):(neOf F P).length<=15:=by
 let:=B4 (λn => !oj P (fq F) n) (Bb P.length);rw[B6] at this;exact AA this h
open Classical in
def mmOf(F P:fG):Fol.Mm:=#[P,λa b=>decide (fq F a=fq F b),λx=>(neOf F P).find? λj=>decide (fq F (place (P.getD j []))=fq F x),λj=>decide (FullR (Un F P) (P.getD j []))]
open Classical in
def ulB(F P:fG)(a b:fS):gQ:=decide (Un F P a b)
def dbt(F P:fG)(q:fH):fA (fS×fS):=q.find? λp => !ulB F P p.1 p.2
def optV:fA fC->V
 |none=>.non
 |some j=>.int (j:fB)
inductive spNumAtS(K:Aa)(C:IS)(vs:eZ V)(H:Hp)(Q:VK):Prop
 |mk (p:IS)(F P:fG)(x:fS)(h0:vs=[.ref p,.str x])(h1:KwAt K C H p F P)(h2:P.length<=15)(h3:(∀r∈P,PartRow r))(h4:∀H',Same H H'->Q (optV ((mmOf F P).num x)) H'):spNumAtS K C vs H Q
def x9(K:Aa)(C:IS):Sp:=λvs H Q _=>spNumAtS K C vs H Q
theorem a34:∀{l:eZ α}{i:fC}{a:α},l[i]?=eV a->(∀b∈l.take i,p b=eY)->p a=eX->l.find? p=eV a
 |[],_,_,h,_,_=>by simp at h
 |b::l,0,a,h,_,hp=>by cases h;rw[Ba,hp]
 |b::l,i+1,a,h,hn,hp=>by
  rw[Ba,hn b (Af ..)];exact a34 (by simpa using h) (λc d=>hn c (Ag _ d)) hp
theorem aas(T:Txt K mg C fI)(F:Fun K "number_at" "Knowledge.number_at" a6p f fd)(Z:FnOk P w K mg base CX0 2 gA dA eS (lw C))(S:eR Z C "alike"):FnOk P w K mg base CX0 3 f fd ["self","place"] (x9 K C):=by
 refine F.okA ["self","place","number"] λaa A outer s0 H vs Q E W h nd=>?_;let(p,g,b,x,rfl,hw,R,N,q):=h;let ac:=j4 W;exists _,fc (im A1 rfl (iq (gh (K:=K) rfl (qv 0))) (ip 2 nd) (ff (gg (j5 (gi (qv 0) T.cl S.meth Z W S.bind .nil gt (ft (fi K (gr K (gh (K:=K) rfl (qv 0)) (qv 2)) dl) (fg (qv 1) fb)))) (ff (fx (qv 2))) gd)))
  (ff (fx gu))
 nofun
 let(pl,hd,un,fu,D,L,Fl,hK,hN,ae,_):=hw.ex;let((hm,uk,t,hok,hU),m,ab):=id hK;let((B,fs,h1,h2,M),U):=id hN;exists _,fR,p,C,B,fs,.ref D,fR,h1,T.cl,T.nE,M,D,fR,#[_,SqL.of U];refine jj (xs:=(neOf g b).map natV) (λi σ n=>Same H n/\(∀j∈(neOf g b).take i,decide (fq g (place (b.getD j []))=fq g x)=eY)/\∃J:fA V,σ=[eV (.ref p),eV (.str x),J])
  #[Same.refl _,(λj u=>by simp at u),eW,fR] (λi σ n _ pv=>SqL.of (pv.1 _ _ U)) ?_ ?_
 . rintro i v σ n hv ⟨l,d,J,rfl⟩
   nofun
   let G:i<(neOf g b).length:=by let:=(Ao.mp hv).1;rw[Ad] at this;exact this
   let a:=Ah G;generalize (neOf g b)[i]=j at a;obtain rfl:v=.int ((j:fC):fB):=by
    rw[Ap,a] at hv;exact(Am hv).symm
   let y:=Ar a;let r:=o0 _ y;let Y:b[j]?=eV b[j]:=Ah r;let X:b.getD j []=b[j]:=by rw[A7,Y];rfl
   let et:(neOf g b).take (i+1)=(neOf g b).take i++[j]:=by rw[AL,a];rfl
   let(af,O,o,s,I):=ma (m.same l) Y;exists _,fR,p,B,fs,fR,l _ _ h1,h2.meth "alike" (by decide),_,fR,p,C,B,fs,.ref pl,fR,l _ _ h1,T.cl,T.nP,h2.parts,_,fR,pl,_,_,.ref O,fR,fR,SqL.of o,s,O,_,1,_,fR,fR,I,(N _ (AH r)).at1,_,fR,p,pl,hd,un,fu,hm,uk,_,x,fR,t.same l;rw[hok.hd,hok.hd];refine#[_,fR,iteB (λc=>?_) (λc=>?_)];exists _,rfl;let e:(mmOf g b).num x=eV j:=a34 a d (by rw[X];exact c);let:=q n l;rw[e] at this;exact this
   refine#[l,λk t=>?_,_,fR];rw[et] at t;rcases Ab.mp t with z|z;exact d k z;rw[Ae.mp z,X];exact c
 rintro σ n ⟨l,d,J,rfl⟩;rw[Ad,AW] at d;let e:(mmOf g b).num x=eW:=BA.mpr λj u=>by rw[d j u];exact Aw
 let:=q n l;rw[e] at this;exact this
end K37
namespace L2
open PyProof.Rows
end L2
namespace K37
open L2 Mir Kn
def a2m:fJ:=["__init__","ask_unlike","holds","take","gives","cell_row","lies_outside","passed","stretch_row","tree_row","row_of","rows_of","leaves_some"]
structure TTxt(K:Aa)(mg:fS->fA IT)(C fI:IS):Prop where
 cl:Cls K C
 nK:NoAttr K C "knowledge"
 nP:NoAttr K C "parts"
 nT:NoAttr K C "taken"
 nD:NoAttr K C "doubt"
 nA:NoAttr K C "amid"
 mgC:mg "Taking"=eV (.ref C)
 mkC:Mk K C fI
structure TkF(fs:eZ (fS×V))(p pd td da:IS)(dv:V):Prop where
 kn:fs.lookup ("knowledge":fS)=eV (.ref p)
 parts:fs.lookup ("parts":fS)=eV (.ref pd)
 taken:fs.lookup ("taken":fS)=eV (.ref td)
 doubt:fs.lookup ("doubt":fS)=eV dv
 amid:fs.lookup ("amid":fS)=eV (.ref da)
 len:fs.length<50
 meth:∀m∈a2m,fs.lookup m=eW
def DbtAt(G:Hp)(dv:V):fA (fS×fS)->Prop
 |none=>dv=.non
 |some p=>∃t,dv=.ref t/\G t=eV (.tup [.str p.1,.str p.2])
def amK:fA (fC×fS)->eZ (Key×V)
 |none=>[]
 |some p=>[(Sum.inl ((p.1:fC):fB),.str p.2)]
def XT(q td:IS):IS->Prop:=λb=>b=q\/b=td
inductive TkG_pd(K:Aa)(G:Hp)(pd:IS)(P:fG):Prop
 |mk (rs)(h0:G pd=eV (.dK (kvE 0 (rs.map V.ref))))(h1:IZ (λb r=>RowAt K G b r) rs P):TkG_pd K G pd P
structure TkG(K:Aa)(C:IS)(G H:Hp)(td p pd da:IS)(dv:V)(F P:fG)(dq:fH)(am:fA (fC×fS)):Prop where
 kw:KwAt K C G p F P
 pd:TkG_pd K G pd P
 db:DbtAt H dv (dbt F P dq)
 am:H da=eV (.dK (amK am))
 da:da≠td
inductive TkAt_ex(K:Aa)(C:IS)(C2:IS)(G:Hp)(H:Hp)(q:IS)(td:IS)(F:fG)(P:fG)(dq:fH)(am:fA (fC×fS)):Prop
 |mk (p pd da dx fs dv)(h0:H q=eV (.ins C2 dx fs))(h1:TkF fs p pd td da dv)(h2:TkG K C G H td p pd da dv F P dq am):TkAt_ex K C C2 G H q td F P dq am
structure TkAt(K:Aa)(C C2:IS)(G H:Hp)(q td:IS)(F P:fG)(tk:eZ fC)(dq:fH)(am:fA (fC×fS)):Prop where
 ex:TkAt_ex K C C2 G H q td F P dq am
 tk:H td=eV (.dK (fk tk))
 sub:∀b o,G b=eV o->H b=eV o/\¬ XT q td b
theorem kx(e:Same H H'):∀{rs:eZ IS}{P:fG},IZ (λb r=>RowAt K H b r) rs P->IZ (λb r=>RowAt K H' b r) rs P
 |_,_,.nil=>.nil
 |_,_,.cons h t=>.cons (h.same e) (kx e t)
theorem DbtAt.same(h:DbtAt H dv o)(e:∀t xs,H t=eV (.tup xs)->H' t=eV (.tup xs)):DbtAt H' dv o:=by
 cases o with|none=>exact h|some z=>let(t,h3,a):=h;exact#[t,h3,e _ _ a]
open Classical in
theorem ulB_iff:ulB F P a b=eX↔Un F P a b:=by unfold ulB;exact decide_eq_true_iff
theorem adv(F P:fG)(q:fH)(a b:fS):dbt F P (q++[(a,b)])=match dbt F P q with|some z=>eV z|none=>if ulB F P a b=eX then eW else eV (a,b):=by
 unfold dbt;rw[Hz];cases q.find? λp => !ulB F P p.1 p.2 with
 |some z=>rfl
 |none =>
  simp only[Option.none_or,Ba,List.find?_nil];cases ulB F P a b<;>rfl
section
variable{K:Aa}{C C2:IS}{G H:Hp}{q td:IS}{F P:fG}{tk:eZ fC}{dq:fH}{am:fA (fC×fS)} in
theorem TkAt.sm(h:TkAt K C C2 G H q td F P tk dq am):Same G H:=λb o a=>(h.sub b o a).1
variable{K:Aa}{C C2:IS}{G H:Hp}{q td:IS}{F P:fG}{tk:eZ fC}{dq:fH}{am:fA (fC×fS)} in
theorem TkAt.ne(h:TkAt K C C2 G H q td F P tk dq am):q≠td:=by
 let(p,pd,da,a,fs,dv,h1,_):=h.ex;exact jb h1 h.tk (λz=>nomatch z)
variable{K:Aa}{C C2:IS}{G H H':Hp}{q td:IS}{F P:fG}{tk:eZ fC}{dq:fH}{am:fA (fC×fS)} in
theorem TkAt.subK(h:TkAt K C C2 G H q td F P tk dq am)(k:Kp (XT q td) H H'):∀b o,G b=eV o->H' b=eV o/\¬ XT q td b:=λb o a=>#[k b o (h.sub b o a).1 (h.sub b o a).2,(h.sub b o a).2]
variable{K:Aa}{C C2:IS}{G H H':Hp}{q td:IS}{F P:fG}{tk tk':eZ fC}{dq:fH}{am:fA (fC×fS)} in
theorem TkAt.move(h:TkAt K C C2 G H q td F P tk dq am)(e:∀b o,H b=eV o->(∀xs,o≠.lst xs)->b≠td->H' b=eV o)(c:∀b o,G b=eV o->H' b=eV o)(d:H' td=eV (.dK (fk tk'))):TkAt K C C2 G H' q td F P tk' dq am:=by
 let(p,pd,da,f,fs,dv,h1,h2,hG):=h.ex;exact#[#[p,pd,da,f,fs,dv,e _ _ h1 (λ_ z=>nomatch z) h.ne,h2,hG.kw,hG.pd,hG.db.same λt xs z=>e _ _ z (λ_ z=>nomatch z) (jb z h.tk (λz=>nomatch z)),e _ _ hG.am (λ_ z=>nomatch z) hG.da,hG.da],d,λb o a=>#[c b o a,(h.sub b o a).2]]
variable{K:Aa}{C C2:IS}{G H H':Hp}{q td:IS}{F P:fG}{tk:eZ fC}{dq:fH}{am:fA (fC×fS)} in
theorem TkAt.same(h:TkAt K C C2 G H q td F P tk dq am)(e:Same H H'):TkAt K C C2 G H' q td F P tk dq am:=h.move (λb o a _ _=>e b o a) (λb o a=>e _ _ (h.sm _ _ a)) (e _ _ h.tk)
variable{K:Aa}{C C2:IS}{G H H':Hp}{q td:IS}{F P:fG}{tk tk':eZ fC}{dq:fH}{am:fA (fC×fS)} in
theorem TkAt.put(h:TkAt K C C2 G H q td F P tk dq am)(k:Kp (· = td) H H')(c:H' td=eV (.dK (fk tk'))):TkAt K C C2 G H' q td F P tk' dq am:=h.move (λb o a _ n=>k b o a n) (λb o a=>k _ _ (h.sm _ _ a) λz=>(h.sub b o a).2 (.inr z)) c
variable{K:Aa}{C C2:IS}{G H:Hp}{q td:IS}{F P:fG}{tk:eZ fC}{dq:fH}{am:fA (fC×fS)} in
theorem TkAt.lput(h:TkAt K C C2 G H q td F P tk dq am){D:IS}(d:G D=eW){xs:eZ V}(c:H D=eV (.lst xs))(ys:eZ V):TkAt K C C2 G (upd H D (.lst ys)) q td F P tk dq am:=h.move (λb o a n _=>by rw[fh (jb a c (n xs))];exact a) (λb o a=>by rw[fh (gc a d)];exact h.sm _ _ a) (by rw[fh (jb h.tk c (λz=>nomatch z))];exact h.tk)
theorem afu(h:¬ j∈tk):putK (fk tk) (Sum.inl ((j:fC):fB)) (.bl eX)=fk (tk++[j]):=by
 rw[lq];unfold fk;rw[Ax];rfl
 let:=ro (Fl:=tk) (n:=j);rw[fT h] at this;cases hz:valV (fk tk) (Sum.inl ((j:fC):fB)) with|none=>rfl|some v=>rw[hz] at this;cases this
end
structure Rd0(F P:fG):Prop where
 facts:∀r∈F,i5 r
 parts:∀r∈P,PartRow r
 len:P.length<=15
inductive spTakeS(K:Aa)(C C2:IS)(vs:eZ V)(H:Hp)(Q:VK):Prop
 |mk (G:Hp)(q td:IS)(F P:fG)(tk:eZ fC)(dq:fH)(am:fA (fC×fS))(x:fS)(h0:vs=[.ref q,.str x])(h1:TkAt K C C2 G H q td F P tk dq am)(h2:Rd0 F P)(h3:tk.length<=100)(h4:∀H',Kp (· = td) H H'->TkAt K C C2 G H' q td F P (tk++(Fol.takeF (mmOf F P) tk x).toList) dq am->Q (optV (Fol.takeF (mmOf F P) tk x)) H'):spTakeS K C C2 vs H Q
def wf(K:Aa)(C C2:IS):Sp:=λvs H Q _=>spTakeS K C C2 vs H Q
inductive spGivesS(K:Aa)(C C2:IS)(vs:eZ V)(H:Hp)(Q:VK):Prop
 |mk (G:Hp)(q td:IS)(F P:fG)(tk:eZ fC)(dq:fH)(am:fA (fC×fS))(f a:fS)(h0:vs=[.ref q,.str f,.str a])(h1:TkAt K C C2 G H q td F P tk dq am)(h2:Q (.bl (Fol.givesF (mmOf F P) f a)) H):spGivesS K C C2 vs H Q
def a3t(K:Aa)(C C2:IS):Sp:=λvs H Q _=>spGivesS K C C2 vs H Q
inductive spAskUS(K:Aa)(C C2:IS)(vs:eZ V)(H:Hp)(Q:VK):Prop
 |mk (G:Hp)(q td:IS)(F P:fG)(tk:eZ fC)(dq:fH)(am:fA (fC×fS))(a b:fS)(h0:vs=[.ref q,.str a,.str b])(h1:TkAt K C C2 G H q td F P tk dq am)(h2:Rd0 F P)(h3:∀H',Kp (XT q td) H H'->TkAt K C C2 G H' q td F P tk (dq++[(a,b)]) am->Q .non H'):spAskUS K C C2 vs H Q
def wy(K:Aa)(C C2:IS):Sp:=λvs H Q _=>spAskUS K C C2 vs H Q
theorem acu(T:Txt K mg C fI)(a:TTxt K mg C2 W)(F:Fun K "take" "Taking.take" acf f fd)(GN:FnOk P w K mg base CX0 3 gN dN eS (x9 K C))(O:eR GN C "number_at"):FnOk P w K mg base CX0 4 f fd ["self","place"] (wf K C C2):=by
 refine F.okA ["self","place","number"] λX A outer s0 H vs Q E R h nd=>?_;let(G,r,td,m,l,tk,dq,am,x,rfl,u,S,I,q):=h;let g:=j4 R;exists _,fc (fz 2 nd (gi (gh (K:=K) rfl (qv 0)) T.cl O.meth GN R O.bind .nil gt (fg (qv 1) fb)))
  (fc (gg (QW.qt (mo (fo (aev g) (qv 2) (gh (K:=K) rfl (qv 0)) (by with_unfolding_all rfl)) (ls (ub g (qv 2) (gh (K:=K) rfl (qv 0)))))) (ff (fx gu)) gd)
  (fc (jg g (gh (K:=K) rfl (qv 0)) (qv 2) md)
  (ff (fx (qv 2)))))
 nofun
 let(p,pd,da,t,fs,dv,h1,h2,hG):=u.ex;let kw:KwAt K C H p m l:=hG.kw.same u.sm;let(rs,h4,h5):=hG.pd;let(pl,hd,un,fu,D,L,Fl,hK,hN,aa,_):=kw.ex;let((N,J,g1,Y,_),_):=id hN;refine#[_,fR,r,C2,t,fs,.ref p,fR,h1,a.cl,a.nK,h2.kn,p,N,J,fR,g1,Y.meth "number_at" (by decide),_,fR,p,m,l,x,fR,kw,S.len,S.parts,λz e=>?_];let d:=u.same e;let s:z pd=eV (.dK (kvE 0 (rs.map V.ref))):=e _ _ (u.sm _ _ h4);cases hn:(mmOf m l).num x with
 |none =>
  let v:Fol.takeF (mmOf m l) tk x=eW:=by unfold Fol.takeF;rw[hn]
  refine#[_,fR,_,fR,r,C2,t,fs,.ref pd,fR,e _ _ h1,a.cl,a.nP,h2.parts,pd,_,fR,s,.inl #[fR,_,fR,?_]];let:=q z (λb o y _=>e _ _ y);rw[v] at this;exact this (by rw[show(eW:fA fC).toList=[] from rfl,A2];exact d)
 |some j =>
  let U:j∈neOf m l:=Bj hn;let M:j<rs.length:=by rw[A3 h5];exact o0 j U
  let gp:valV (kvE 0 (rs.map V.ref)) (Sum.inl ((j:fC):fB))=eV (.ref rs[j]):=by rw[wg,Ap,Ah M];rfl
  let Z:=DGet.k (k:=Sum.inl ((j:fC):fB)) d.tk;refine#[_,fR,_,fR,r,C2,t,fs,.ref pd,fR,e _ _ h1,a.cl,a.nP,h2.parts,pd,_,fR,s,.inr #[_,fR,?_]];rw[gp];exists _,rfl;exists _,fR,_,fR,r,C2,t,fs,.ref td,fR,e _ _ h1,a.cl,a.nT,h2.taken,td,_,fR,Z,_,rfl;rw[ro];refine iteB (λc=>?_) (λc=>?_)
  . let B:=fV c;let v:Fol.takeF (mmOf m l) tk x=eW:=by unfold Fol.takeF;rw[hn];exact fE B
    let:=q z (λb o y _=>e _ _ y);rw[v] at this;exact this (by rw[show(eW:fA fC).toList=[] from rfl,A2];exact d)
  let B:=fW c;let v:Fol.takeF (mmOf m l) tk x=eV j:=by unfold Fol.takeF;rw[hn];exact fD B
  exists _,fR,r,C2,t,fs,.ref td,fR,e _ _ h1,a.cl,a.nT,h2.taken,_,fR,td,_,fR,DPut.k (k:=Sum.inl ((j:fC):fB)) d.tk (by unfold fk;rw[Ad];exact AI I (by decide));rw[afu B];exists _,rfl;let k1:Kp (· = td) H (upd z td (.dK (fk (tk++[j])))):=λb o y n=>by rw[fh n];exact e _ _ y
  let:=q _ k1;rw[v] at this;exact this (u.put k1 ad)
theorem aa6(T:Txt K mg C Y)(k:TTxt K mg C2 n)(F:Fun K "gives" "Taking.gives" a6i f fd)(o:FnOk P w K mg base CX0 2 O z eS (lw C))(l:eR o C "alike"):FnOk P w K mg base CX0 3 f fd ["self","found","asked"] (a3t K C C2):=by
 refine F.okA ["self","found","asked"] λr A outer s0 H vs Q E N h _=>?_;let(G,x,td,R,B,tk,dq,am,u,a,rfl,m,q):=h;exists _,(ff (fx (a4c (j7 gk (qv 2) gj (fm _)) (ni (r6 (j7 kc (qv 1) gj (fm _)) (ni (gi (gh (K:=K) rfl (qv 0)) T.cl l.meth o N l.bind .nil gt (fg (qv 1) (fg (qv 2) fb)))))))));let(p,pd,da,I,fs,dv,h1,h2,hG):=m.ex;let kw:KwAt K C H p R B:=hG.kw.same m.sm;let(pl,hd,un,J,D,L,Fl,S,W,y,_):=kw.ex;let((hm,M,U,hok,X),i,t):=id S;let((j,e,g1,s,_),_):=id W;unfold Fol.givesF at q;refine#[_,fR,fR,_,fR,iteB (λc=>?_) (λc=>?_)]
 . let g:a="any" := by simpa using c
   rw[fU g] at q;exact q
 let g:¬ a="any" := by simpa using c
 rw[fT g] at q;refine#[_,fR,fR,_,fR,iteB (λd=>?_) (λd=>?_)]
 . let b:¬ u="any" := by simpa using d
   rw[fT b] at q;exists _,fR,x,C2,I,fs,.ref p,fR,h1,k.cl,k.nK,h2.kn,p,j,e,fR,g1,s.meth "alike" (by decide),_,fR,_,fR,p,pl,hd,un,J,hm,M,u,a,fR,U;rw[hok.hd,hok.hd];exact q
 let b:u="any" := by simpa using d
 rw[fU b] at q;exact q
theorem a51:∀m∈a2m,m≠("parts":fS)/\m≠("knowledge":fS)/\m≠("taken":fS)/\m≠("doubt":fS)/\m≠("amid":fS):=by decide
theorem a49:("parts":fS)≠"taken" /\ ("parts":fS)≠"doubt" /\ ("parts":fS)≠"amid" /\ ("knowledge":fS)≠"parts" /\ ("knowledge":fS)≠"taken" /\ ("knowledge":fS)≠"doubt" /\ ("knowledge":fS)≠"amid" /\ ("taken":fS)≠"doubt" /\ ("taken":fS)≠"amid" /\ ("doubt":fS)≠"amid" := by decide
theorem vc:∀{fs:eZ (fS×V)},fs.lookup x=eV o->(putF x v fs).length=fs.length
 |[],h=>by cases h
 | (y,z)::fs,h=>by
  by_cases c:x=y;subst c;unfold putF;rw[fE rfl];rfl;unfold putF;rw[fD (λe=>c e.symm)];rw[Au,Au,vc (fs:=fs) (o:=o) (by rw[HL,show(x==y)=eY from by simpa using c] at h;exact h)]
theorem TkF.setD(h:TkF fs p pd td da dv)(v:V):TkF (putF "doubt" v fs) p pd td da v:=by
 let(n1,n2,i,f,e,b,g,c,d,a):=a49;refine#[?_,?_,?_,?_,?_,by rw[vc h.doubt];exact h.len,λm hm=>?_];rw[fy,fD b];exact h.kn;rw[fy,fD n2];exact h.parts;rw[fy,fD c];exact h.taken;rw[fy,fE rfl];rw[fy,fD (AE a)];exact h.amid;rw[fy,fD (a51 m hm).2.2.2.1];exact h.meth m hm
theorem TkF.setA(h:TkF fs p pd td da dv)(a:IS):TkF (putF "amid" (.ref a) fs) p pd td a dv:=by
 let(n1,n2,e,j,f,g,d,i,c,b):=a49;refine#[?_,?_,?_,?_,?_,by rw[vc h.amid];exact h.len,λm hm=>?_];rw[fy,fD d];exact h.kn;rw[fy,fD e];exact h.parts;rw[fy,fD c];exact h.taken;rw[fy,fD b];exact h.doubt;rw[fy,fE rfl];rw[fy,fD (a51 m hm).2.2.2.2];exact h.meth m hm
theorem ade(T:Txt K mg C fI)(l:TTxt K mg C2 U)(F:Fun K "ask_unlike" "Taking.ask_unlike" abr f fd)(GU:FnOk P w K mg base CX0 2 gU dU eS (vq C))(R:eR GU C "unlike"):FnOk P w K mg base CX0 3 f fd ["self","one","other"] (wy K C C2):=by
 refine F.okA ["self","one","other"] λW A outer s0 H vs Q E hr h _=>?_;let(G,m,td,k,i,tk,dq,am,a,b,rfl,j,hR,q):=h;exists _,(ff (gg (QW.qt (j6 (fo lu (gh (K:=K) rfl (qv 0)) gu (fm _)) (je (ld (j5 (gi (gh (K:=K) rfl (qv 0)) T.cl R.meth GU hr R.bind .nil gt (fg (qv 1) (fg (qv 2) fb)))))))) (ff (kq (K:=K) rfl (qv 0) (ij (fg (qv 1) (fg (qv 2) fb))))) gd));let u:=j.ne;let(p,pd,da,r,fs,dv,h1,h2,hG):=id j.ex;let kw:KwAt K C H p k i:=hG.kw.same j.sm;let(pl,hd,un,fu,D,L,Fl,hK,hN,aa,hA,y,_):=kw.ex;let((hm,S,hk,hok,X),N,Z):=id hK;let((O,J,g1,Y,_),_):=id hN;let e:=hG.db;let c:=adv k i dq a b;let stay:∀g,Same H g->dbt k i (dq++[(a,b)])=dbt k i dq->Q .non g:=λg d he=>by
  let v:=j.same d;refine q g (λb o M _=>d _ _ M) #[#[p,pd,da,r,fs,dv,d _ _ h1,h2,hG.kw,hG.pd,by rw[he];exact hG.db.same λt xs z=>d _ _ z,d _ _ hG.am,hG.da],v.tk,v.sub]
 exists _,fR,m,C2,r,fs,dv,fR,h1,l.cl,l.nD,h2.doubt,fR,_,rfl;cases hz:dbt k i dq with
 |some z =>
  rw[hz] at e c;let(t,rfl,_):=e;exact stay H (Same.refl _) (by rw[c,hz])
 |none =>
  rw[hz] at e c;let B:dv=.non:=e;subst B;refine#[_,fR,m,C2,r,fs,.ref p,fR,h1,l.cl,l.nK,h2.kn,p,O,J,fR,g1,Y.meth "unlike" (by decide),_,fR,_,fR,p,pl,hd,un,fu,hm,S,a,b,fR,hk,λg d=>?_];let eu:(valV S [Sum.inr (hdS hm a),Sum.inr (hdS hm b)]).isSome=ulB k i a b:=by
   rw[hok.hd,hok.hd,Bm,X.told a b,a68 hR.facts hA y.sound];exact(ulB_iff).symm
  rw[eu];cases hu:ulB k i a b with
  |true =>
   rw[hu] at c;exact#[_,fR,stay g d (by rw[c,hz];rfl)]
  |false =>
   rw[hu] at c;exists _,rfl;refine#[_,fR,_,fR,fK,λt s=>?_];let x:=fe s (.tup [.str a,.str b]);exists _,fR,m,C2,r,fs,fR,x _ _ (d _ _ h1),l.cl,l.nD,DK h2.len (by decide);let k3:Kp (XT m td) H (upd (upd g t (.tup [.str a,.str b])) m (.ins C2 r (putF "doubt" (.ref t) fs))):=λb o M n=>by rw[fh (λz=>n (.inl z))];exact x _ _ (d _ _ M)
   let I:t≠m:=λz=>by rw[z,d _ _ h1] at s;cases s
   let ab:t≠td:=λz=>by rw[z,d _ _ j.tk] at s;cases s
   refine q _ k3 #[#[p,pd,da,r,_,.ref t,ad,h2.setD _,hG.kw,hG.pd,?_,?_,hG.da],?_,j.subK k3];rw[c];exact#[t,fR,by rw[fh I,ad]];rw[fh (jb hG.am h1 (λz=>nomatch z))];exact x _ _ (d _ _ hG.am);rw[fh (AE u)];exact x _ _ (d _ _ j.tk)
theorem aex(d:RowAt K H b r)(k:Kp (XT q td) H H')(c:H q=eV (.ins C2 e fs))(a:H td=eV (.dK kvs)):RowAt K H' b r:=by
 rcases d with (h|⟨o,h⟩)|h
 . exact .inl (.inl (k _ _ h (λz=>z.elim (jb h c (λz=>nomatch z)) (jb h a (λz=>nomatch z)))))
 . exact .inl (.inr #[o,k _ _ h (λz=>z.elim (jb h c (λz=>nomatch z)) (jb h a (λz=>nomatch z)))])
 exact .inr h
section
variable{K:Aa}{C C2:IS}{G H H':Hp}{q td:IS}{F P:fG}{tk:eZ fC}{dq:fH}{am:fA (fC×fS)} in
theorem TkAt.row(h:TkAt K C C2 G H q td F P tk dq am){b:IS}{r:fJ}(a:RowAt K H b r)(k:Kp (XT q td) H H'):RowAt K H' b r:=by
 let(p,pd,da,c,fs,dv,h1,_):=h.ex;exact aex a k h1 h.tk
theorem TkAt.lst{K:Aa}{C C2:IS}{G H:Hp}{q td:IS}{F P:fG}{tk:eZ fC}{dq:fH}{am:fA (fC×fS)}(h:TkAt K C C2 G H q td F P tk dq am){b:IS}{xs:eZ V}(a:H b=eV (.lst xs)):¬ XT q td b:=λz=>by
 let(p,pd,da,c,fs,dv,h1,_):=h.ex;exact z.elim (jb a h1 (λz=>nomatch z)) (jb a h.tk (λz=>nomatch z))
variable{K:Aa}{C C2:IS}{G H:Hp}{q td:IS}{F P:fG}{tk:eZ fC}{dq:fH}{am:fA (fC×fS)} in
theorem TkAt.free(h:TkAt K C C2 G H q td F P tk dq am){b:IS}(a:H b=eW):¬ XT q td b:=λz=>by
 let(p,pd,da,c,fs,dv,h1,_):=h.ex;exact z.elim (λz=>by rw[z,h1] at a;cases a) (λz=>by rw[z,h.tk] at a;cases a)
theorem Kp.tr(k:Kp X H H')(k2:Kp X H' c):Kp X H c:=λb o a n=>k2 b o (k b o a n) n
theorem Kp.sm(e:Same H H'):Kp X H H':=λb o a _=>e b o a
theorem Kp.ofT(k:Kp (· = td) H H'):Kp (XT q td) H H':=λb o a n=>k b o a λz=>n (.inr z)
theorem xa(h:TkAt K C C2 G H q td F P tk dq am)(c:P[j]?=eV r):∃p pd da a fs dv,H q=eV (.ins C2 a fs)/\TkF fs p pd td da dv/\KwAt K C H p F P/\∃kvs b,H pd=eV (.dK kvs)/\valV kvs (Sum.inl ((j:fC):fB))=eV (.ref b)/\RowAt K H b r:=by
 let(p,pd,da,a,fs,dv,h1,h2,hG):=h.ex;let(rs,e,d):=hG.pd;let hl:j<rs.length:=by rw[A3 d];exact(Ao.mp c).1
 refine#[p,pd,da,a,fs,dv,h1,h2,hG.kw.same h.sm,_,rs[j],h.sm _ _ e,?_,(Paired.at2 d (Ah hl) c).same h.sm];rw[wg,Ap,Ah hl];rfl
end
open Classical in
theorem full_iff:(mmOf F P).full i=eX↔FullR (Un F P) (P.getD i []):=by unfold mmOf;exact decide_eq_true_iff
def alB(F:fG)(a b:fS):gQ:=decide (fq F a=fq F b)
inductive spHoldsTS(K:Aa)(C C2:IS)(vs:eZ V)(H:Hp)(Q:VK):Prop
 |mk (G:Hp)(q td t:IS)(F P:fG)(tk:eZ fC)(dq:fH)(am:fA (fC×fS))(k a b:fS)(h0:vs=[.ref q,.ref t])(h1:TkAt K C C2 G H q td F P tk dq am)(h2:Rd0 F P)(h3:RowAt K H t [k,a,b])(h4:∀H',Kp (XT q td) H H'->TkAt K C C2 G H' q td F P tk (if k="is" then dq else dq++[(a,b)]) am->Q (.bl (if k="is" then alB F a b else !alB F a b)) H'):spHoldsTS K C C2 vs H Q
def a19(K:Aa)(C C2:IS):Sp:=λvs H Q _=>spHoldsTS K C C2 vs H Q
inductive spLiesS(K:Aa)(C C2:IS)(vs:eZ V)(H:Hp)(Q:VK):Prop
 |mk (G:Hp)(q td:IS)(F P:fG)(tk:eZ fC)(dq:fH)(am:fA (fC×fS))(j:fC)(e:fS)(h0:vs=[.ref q,.int (j:fB),.str e])(h1:TkAt K C C2 G H q td F P tk dq am)(h2:Rd0 F P)(h3:(∀lo,Fol.liesF (mmOf F P) e=eV lo->∀H',Kp (XT q td) H H'->TkAt K C C2 G H' q td F P tk (dq++lo) am->Q (.bl eX) H'))(h4:(Fol.liesF (mmOf F P) e=eW->∀H',Kp (XT q td) H H'->TkAt K C C2 G H' q td F P tk dq (eV (j,e))->Q (.bl eY) H')):spLiesS K C C2 vs H Q
def a8m(K:Aa)(C C2:IS):Sp:=λvs H Q _=>spLiesS K C C2 vs H Q
theorem a73(T:Txt K mg C fI)(m:TTxt K mg C2 Z)(F:Fun K "holds" "Taking.holds" a3g f fd)(U:FnOk P w K mg base CX0 2 gA dA eS (lw C))(s:eR U C "alike")(GK:FnOk P w K mg base CX0 3 gK dK eT (wy K C C2))(W:eR GK C2 "ask_unlike"):FnOk P w K mg base CX0 4 f fd ["self","fact"] (a19 K C C2):=by
 refine F.okA ["self","fact"] λaa A outer s0 H vs Q E Y h _=>?_;let(G,u,td,t,N,B,tk,dq,am,k,a,b,rfl,r,hR,X,q):=h;let o:=Y.mono (j:=2) (by lia);exists _,fc (gg (fo gk (fi K (qv 1) dl) gj (fm _)) (ff (fx (gi (gh (K:=K) rfl (qv 0)) T.cl s.meth U o s.bind .nil gt (ft (fi K (qv 1) dl) (ft (fi K (qv 1) dl) fb))))) gd)
  (fc (ia (gi (qv 0) m.cl W.meth GK Y W.bind .nil gt (ft (fi K (qv 1) dl) (ft (fi K (qv 1) dl) fb))))
  (ff (fx (a6r (gi (gh (K:=K) rfl (qv 0)) T.cl s.meth U o s.bind .nil gt (ft (fi K (qv 1) dl) (ft (fi K (qv 1) dl) fb)))))))
 nofun
 let(p,pd,da,v,fs,dv,h1,h2,hG):=r.ex;let d:SqT K H t ([k,a,b].map V.str):=X;refine#[_,fR,t,_,0,.str k,fR,fR,d,fR,fR,_,fR,iteB (λc=>?_) (λc=>?_)]
 . let I:k="is" := by simpa using c
   simp only[fE I] at q;let kw:KwAt K C H p N B:=hG.kw.same r.sm;let(pl,hd,un,J,D,L,Fl,O,S,_):=kw.ex;let((hm,M,R,hok,hU),i,y):=id O;let((l,e,g1,x,_),_):=id S;exists _,fR,u,C2,v,fs,.ref p,fR,h1,m.cl,m.nK,h2.kn,p,l,e,fR,g1,x.meth "alike" (by decide),_,fR,t,_,1,.str a,fR,fR,d,fR,_,fR,t,_,2,.str b,fR,fR,d,fR,p,pl,hd,un,J,hm,M,a,b,fR,R;rw[hok.hd,hok.hd];exact q H (Kp.sm (Same.refl _)) r
 let I:¬ k="is" := by simpa using c
 simp only[fD I] at q;refine#[_,fR,u,v,fs,fR,h1,h2.meth "ask_unlike" (by decide),_,fR,t,_,1,.str a,fR,fR,d,fR,_,fR,t,_,2,.str b,fR,fR,d,fR,G,u,td,N,B,tk,dq,am,a,b,fR,r,hR,λz k1 g=>?_];let n:SqT K z t ([k,a,b].map V.str):=r.row X k1;let(p,pd,da,v,fs,dv,h1,h2,hG):=g.ex;let kw:KwAt K C z p N B:=hG.kw.same g.sm;let(pl,hd,un,J,D,L,Fl,O,S,_):=kw.ex;let((hm,M,R,hok,hU),i,y):=id O;let((l,e,g1,x,_),_):=id S;exists _,fR,u,C2,v,fs,.ref p,fR,h1,m.cl,m.nK,h2.kn,p,l,e,fR,g1,x.meth "alike" (by decide),_,fR,t,_,1,.str a,fR,fR,n,fR,_,fR,t,_,2,.str b,fR,fR,n,fR,p,pl,hd,un,J,hm,M,a,b,fR,R;rw[hok.hd,hok.hd];exact#[_,fR,q z k1 g]
theorem fQ:1<=15:=by decide
theorem adz(T:Txt K mg C fI)(s:TTxt K mg C2 ap)(F:Fun K "lies_outside" "Taking.lies_outside" ac3 f fd)(GA:FnOk P w K mg base CX0 2 gA dA eS (lw C))(cA:eR GA C "alike")(GN:FnOk P w K mg base CX0 3 gN dN eT (x9 K C))(cN:eR GN C "number_at")(GE:FnOk P w K mg base CX0 1 gE dE ["part"] (ww K))(cE:Cal K mg "ends_of" gE dE ["part"])(GK:FnOk P w K mg base CX0 3 gK dK ["self","one","other"] (wy K C C2))(cK:MCal K C2 "ask_unlike" gK dK ["self","one","other"]):FnOk P w K mg base CX0 4 f fd ["self","number","end"] (a8m K C C2):=by
 refine F.okA ["self","number","end","other","ends"] λaq A outer s0 H vs Q E Z h nd=>?_;let(G,x,td,r,d,tk,dq,am,j,e,rfl,B,hR,qs,qn):=h;let ag:=j4 Z;let al:=Z.mono (j:=1) (by lia);let ai:=Z.mono (j:=2) (by lia);exists _,fc (gg (j5 (gi (gh (K:=K) rfl (qv 0)) T.cl cA.meth GA ai cA.bind .nil gt (fg (qv 2) (gw fb)))) (ff (fx md)) gd)
  (fc (fz 3 nd (gi (gh (K:=K) rfl (qv 0)) T.cl cN.meth GN Z cN.bind .nil gt (fg (qv 2) fb)))
  (fc (gg (fo lu (qv 3) gu (fm _)) (fc (kq (K:=K) rfl (qv 0) (pb (qv 1) (qv 2)))
  (ff (fx md))) gd)
  (fc (gg (ku ag (qv 3) (gh (K:=K) rfl (gh (K:=K) rfl (qv 0)))) (fc (fz 4 nd (gm GE al cE (ft (gr K (gh (K:=K) rfl (gh (K:=K) rfl (qv 0))) (qv 3)) fb)))
  (ff (ia (gi (qv 0) s.cl cK.meth GK Z cK.bind .nil gt (ft (fi K (qv 4) dl) (ft (fi K (qv 4) dl) fb)))))) gd)
  (ff (fx md)))))
 nofun
 let X:=B.ne;let(p,pd,da,J,fs,dv,h1,h2,hG):=id B.ex;let kw:KwAt K C H p r d:=hG.kw.same B.sm;let(pl,hd,un,fu,D,L,Fl,hK,hN,ah,hA,ab,_):=kw.ex;let((hm,uk,hk,hok,hU),N,ar):=id hK;let((I,y,g1,g2,_),_):=id hN;exists _,fR,x,C2,J,fs,.ref p,fR,h1,s.cl,s.nK,h2.kn,p,I,y,fR,g1,g2.meth "alike" (by decide),_,fR,p,pl,hd,un,fu,hm,uk,e,"nil",fR,hk;rw[hok.hd,hok.hd];refine#[_,fR,iteB (λc=>?_) (λc=>?_)];exact qs [] (by unfold Fol.liesF;exact fE c) H (Kp.sm (Same.refl _)) (by rw[A2];exact B)
 let W:Fol.liesF (mmOf r d) e=match (mmOf r d).num e with|none=>eW|some i=>if(mmOf r d).full i=eX then eV [] else eV [(place (d.getD i []),end2 (d.getD i []))]:=by
  unfold Fol.liesF;exact fD (by show ¬ decide (fq r e=fq r "nil")=eX;rw[c];exact Aw)
 refine#[_,fR,x,C2,J,fs,.ref p,fR,h1,s.cl,s.nK,h2.kn,p,I,y,fR,g1,g2.meth "number_at" (by decide),_,fR,p,r,d,e,fR,kw,hR.len,hR.parts,λU l=>?_];let ak:=B.same l;cases hn:(mmOf r d).num e with
 |none =>
  rw[hn] at W;exists _,fR,fR,_,rfl;refine λv m=>?_;let s2:=fe m (.dK []);exists _,fR,_,fR,ad,[(Sum.inl ((j:fC):fB),.str e)],fR,fQ;let R:Same U (upd (upd U v (.dK [])) v (.dK (jd [] [(Sum.inl ((j:fC):fB),.str e)]))):=gz m s2 _;let q3:(upd (upd U v (.dK [])) v (.dK (jd [] [(Sum.inl ((j:fC):fB),.str e)]))) v=eV (.dK (amK (eV (j,e)))):=by rw[ad];rfl
  generalize upd (upd U v (.dK [])) v (.dK (jd [] [(Sum.inl ((j:fC):fB),.str e)]))=H3 at R q3 |-;exists _,fR,x,C2,J,fs,fR,R _ _ (l _ _ h1),s.cl,s.nA,DK h2.len (by decide);let k3:Kp (XT x td) H (upd H3 x (.ins C2 J (putF "amid" (.ref v) fs))):=λb o hb n=>by rw[fh (λz=>n (.inl z))];exact R _ _ (l _ _ hb)
  let af:v≠x:=λz=>by rw[z,l _ _ h1] at m;cases m
  let aj:v≠td:=λz=>by rw[z,l _ _ B.tk] at m;cases m
  refine qn W _ k3 #[#[p,pd,v,J,_,dv,ad,h2.setA _,hG.kw,hG.pd,hG.db.same λt xs z=>by rw[fh (jb z h1 (λz=>nomatch z))];exact R _ _ (l _ _ z),?_,aj],?_,B.subK k3];rw[fh af];exact q3;rw[fh (AE X)];exact R _ _ (l _ _ B.tk)
 |some i =>
  rw[hn] at W;let hi:i∈neOf r d:=Bj hn;let Y:=o0 i hi;let hs:d[i]?=eV d[i]:=Ah Y;let hg:d.getD i []=d[i]:=by rw[A7,hs];rfl
  let full:i∈Fl↔(mmOf r d).full i=eX:=by
   rw[full_iff,hg];constructor;intro z;let(r',q1,q2):=ab.isf i z;rw[hs] at q1;cases q1;exact q2;exact λz=>hA.full i _ hs (z.mono λa b u=>xy hR.facts hA u)
  let g:=DGet.k (k:=Sum.inl ((i:fC):fB)) (l _ _ ah);exists _,fR,fR,_,rfl;exists _,fR,_,fR,x,C2,J,fs,.ref p,fR,l _ _ h1,s.cl,s.nK,h2.kn,p,C,I,y,.ref fu,fR,l _ _ g1,T.cl,T.nF,g2.fulls,fu,_,fR,g,_,rfl;rw[ro];refine iteB (λc=>?_) (λc=>?_)
  . let c':¬ i∈Fl:=by simpa using c
    let ao:¬ (mmOf r d).full i=eX:=λz=>c' (full.mpr z);let ac:Fol.liesF (mmOf r d) e=eV [(place d[i],end2 d[i])]:=by rw[W,<- hg];exact fD ao
    let(au,b4,O,aa,an):=ma (N.same l) hs;refine#[_,fR,x,C2,J,fs,.ref p,fR,l _ _ h1,s.cl,s.nK,h2.kn,p,C,I,y,.ref pl,fR,l _ _ g1,T.cl,T.nP,g2.parts,_,fR,pl,_,_,.ref b4,fR,fR,SqL.of O,aa,b4,_,fR,an,hR.parts _ (AH Y),λt H2 e2 S=>?_];let M:=l.trans e2;refine#[_,fR,x,J,fs,fR,M _ _ h1,h2.meth "ask_unlike" (by decide),_,fR,t,_,0,.str (place d[i]),fR,fR,S,fR,_,fR,t,_,1,.str (end2 d[i]),fR,fR,S,fR,G,x,td,r,d,tk,dq,am,_,_,fR,B.same M,hR,λH3 k3 ae=>?_];exact qs _ ac H3 (Kp.tr (Kp.sm M) k3) ae
  let c':i∈Fl:=by simpa using c
  exact qs [] (by rw[W];exact fE (full.mp c')) U (Kp.sm l) (by rw[A2];exact ak)
inductive spPassedS(K:Aa)(C C2:IS)(vs:eZ V)(H:Hp)(Q:VK):Prop
 |mk (G:Hp)(q td:IS)(F P:fG)(tk:eZ fC)(dq:fH)(am:fA (fC×fS))(j:fC)(e:fS)(r:fJ)(h0:vs=[.ref q,.int (j:fB),.str e])(h1:TkAt K C C2 G H q td F P tk dq am)(h2:Rd0 F P)(h3:P[j]?=eV r)(h4:(∀a qs,Fol.passF (mmOf F P) j e=.ok a qs->∀H',Kp (XT q td) H H'->TkAt K C C2 G H' q td F P tk (dq++qs) am->Q (.str a) H'))(h5:(Fol.passF (mmOf F P) j e=.amid->∀H' dq',Kp (XT q td) H H'->TkAt K C C2 G H' q td F P tk dq' (eV (j,e))->Q .non H'))(h6:(Fol.passF (mmOf F P) j e=.fail->∀H',Kp (XT q td) H H'->TkAt K C C2 G H' q td F P tk dq am->Q .non H')):spPassedS K C C2 vs H Q
def a0m(K:Aa)(C C2:IS):Sp:=λvs H Q _=>spPassedS K C C2 vs H Q
structure TkN(F P:fG)(tk:eZ fC):Prop where
 nd:tk.Nodup
 ne:∀j∈tk,j∈neOf F P
theorem TkN.len(h:TkN F P tk)(a:P.length<=15):tk.length<=15:=AA (ut h.nd h.ne) (u4 a)
theorem TkN.put(h:TkN F P tk)(c:j∈neOf F P)(hn:¬ j∈tk):TkN F P (tk++[j]):=#[AN.mpr #[h.nd,AK.mpr #[Aq,Bh],λa f b d e=>hn (by rw[<- Ae.mp d,<- e];exact f)],λi hi=>by
 rcases Ab.mp hi with z|z;exact h.ne i z
 rw[Ae.mp z];exact c]
theorem xt(h:Fol.takeF (mmOf F P) tk x=eV j):j∈neOf F P/\¬ j∈tk:=by
 let(h1,h2):=Fol.takeF_some h;exact#[Bj h1,h2]
def RowQ(K:Aa)(C C2:IS)(G H:Hp)(q td:IS)(F P:fG)(tk:eZ fC)(dq:fH)(am:fA (fC×fS))(e:fS)(Q:VK)(res:Fol.SRes):Prop :=
 (∀js qs,res=.ok js qs->∀D xs H',Kp (XT q td) H H'->TkAt K C C2 G H' q td F P (tk++js) (dq++qs) am->TkN F P (tk++js)->H' D=eV (.lst xs)->Q (.ref D) H')/\
 (∀j,res=.amid j->∀H' tk' dq',Kp (XT q td) H H'->TkAt K C C2 G H' q td F P tk' dq' (eV (j,e))->Q .non H')/\
 (res=.fail->∀H' tk' dq',Kp (XT q td) H H'->TkAt K C C2 G H' q td F P tk' dq' am->Q .non H')
inductive spRowS(K:Aa)(C C2:IS)(R:fJ->Prop)(vs:eZ V)(H:Hp)(Q:VK):Prop
 |mk (G:Hp)(q td b:IS)(F P:fG)(tk:eZ fC)(dq:fH)(am:fA (fC×fS))(r:fJ)(h0:vs=[.ref q,.ref b])(h1:TkAt K C C2 G H q td F P tk dq am)(h2:Rd0 F P)(h3:TkN F P tk)(h4:RowAt K H b r)(h5:R r)(h6:RowQ K C C2 G H q td F P tk dq am (end2 r) Q (Fol.rowF (mmOf F P) tk r)):spRowS K C C2 R vs H Q
def qg(K:Aa)(C C2:IS)(R:fJ->Prop):Sp:=λvs H Q _=>spRowS K C C2 R vs H Q
theorem a84(T:Txt K mg C fI)(x:TTxt K mg C2 af)(F:Fun K "passed" "Taking.passed" a41 f fd)(GA:FnOk P w K mg base CX0 2 gA dA eS (lw C))(cA:eR GA C "alike")(GK:FnOk P w K mg base CX0 3 gK dK eT (wy K C C2))(N:eR GK C2 "ask_unlike")(GL:FnOk P w K mg base CX0 4 gL dL ["self","number","end"] (a8m K C C2))(cL:MCal K C2 "lies_outside" gL dL ["self","number","end"]):FnOk P w K mg base CX0 5 f fd ["self","number","end"] (a0m K C C2):=by
 refine F.okA ["self","number","end","found"] λag A outer s0 H vs Q E O h nd=>?_;let(G,t,td,m,d,tk,dq,am,j,e,r,rfl,v,R,S,B,ac,M):=h;let U:=j4 O;let aa:=O.mono (j:=2) (by lia);let J:=O.mono (j:=3) (by lia);exists _,fc (fz 3 nd (ik U (gh (K:=K) rfl (qv 0)) (qv 1) (λ_ _=>rfl)))
  (fc (gg (QW.qt (j6 (fo gk (fi K (qv 3) dl) gj (fm _)) (je (fo kc (fi K (qv 3) dl) gj (fm _))))) (fc (ia (gi (qv 0) x.cl N.meth GK J N.bind .nil gt (ft (fi K (qv 3) dl) (fg (qv 2) fb))))
  (ff (fx (fi K (qv 3) dl)))) gd)
  (fc (gg (fo gk (fi K (qv 3) dl) gj (fm _)) (fc (gg (j5 (gi (gh (K:=K) rfl (qv 0)) T.cl cA.meth GA aa cA.bind .nil gt (ft (fi K (qv 3) dl) (fg (qv 2) fb)))) (ff (fx (fi K (qv 3) dl))) gd)
  (fc (ia (gi (qv 0) x.cl N.meth GK J N.bind .nil gt (ft (fi K (qv 3) dl) (fg (qv 2) fb))))
  (ff (fx (nq (j5 (gi (qv 0) x.cl cL.meth GL O cL.bind .nil gt (fg (qv 1) (fg (qv 2) fb)))) (fi K (qv 3) dl) gu))))) gd)
  (ff (fx gu))))
 nofun
 let(p,pd,da,I,fs,dv,h1,h2,kw,kvs,b,g1,g2,l):=xa v S;let gp:=DGet.k (k:=Sum.inl ((j:fC):fB)) g1;rw[g2] at gp;let y:d.getD j []=r:=by rw[A7,S];rfl
 exists _,fR,t,C2,I,fs,.ref pd,fR,h1,x.cl,x.nP,h2.parts,_,fR,pd,_,fR,gp;let sm:Kp (XT t td) H H:=Kp.sm (Same.refl _);rcases R.parts r (Ar S) with⟨a,f',s',rfl⟩|⟨a,o,rfl⟩|⟨a,rfl⟩
 . let g:Fol.passF (mmOf m d) j e=if("cell":fS)="cell" /\ ¬ s'="any" then .ok s' [(a,e)] else .fail:=by
    unfold Fol.passF;show(match d.getD j [] with | [k,p,_,s]=>_ | [k,p,q]=>_|_=>_)=_;rw[y]
   exists _,fR,b,_,0,.str "cell",fR,fR,l,fR,fR,_,rfl;refine#[_,fR,b,_,3,.str s',fR,fR,l,fR,fR,_,fR,iteB (λc=>?_) (λc=>?_)]
   . let Z:¬ s'="any" := by simpa using c
     rw[fE #[fR,Z]] at g;refine#[_,fR,t,I,fs,fR,h1,h2.meth "ask_unlike" (by decide),_,fR,b,_,1,.str a,fR,fR,l,fR,_,fR,G,t,td,m,d,tk,dq,am,a,e,fR,v,R,λH1 k1 n=>?_];exact#[_,fR,b,_,3,.str s',fR,fR,v.row l k1,fR,B _ _ g H1 k1 n]
   let Z:s'="any" := by simpa using c
   rw[fD (λz=>z.2 Z)] at g;exact#[_,fR,b,_,0,.str "cell",fR,fR,l,fR,fR,_,fR,M g H sm v]
 . let g:Fol.passF (mmOf m d) j e=if(mmOf m d).al o e=eX then .ok o [] else match Fol.liesF (mmOf m d) e with|none=>.amid|some lo=>.ok o ((a,e)::lo):=by
    unfold Fol.passF;show(match d.getD j [] with | [k,p,_,s]=>_ | [k,p,q]=>_|_=>_)=_;rw[y];exact fE rfl
   exists _,fR,b,_,0,.str "stretch",fR,fR,l,fR,fR,_,rfl;exists _,fR,b,_,0,.str "stretch",fR,fR,l,fR,fR,_,rfl;let(pl,hd,un,fu,D,L,Fl,hK,hN,_):=kw.ex;let((hm,uk,hk,hok,hU),ab,ah):=id hK;let((ae,X,W,Y,_),_):=id hN;exists _,fR,t,C2,I,fs,.ref p,fR,h1,x.cl,x.nK,h2.kn,p,ae,X,fR,W,Y.meth "alike" (by decide),_,fR,b,_,2,.str o,fR,fR,l,fR,_,fR,p,pl,hd,un,fu,hm,uk,o,e,fR,hk;rw[hok.hd,hok.hd];refine#[_,fR,iteB (λc=>?_) (λc=>?_)];rw[fE (show(mmOf m d).al o e=eX from c)] at g;exact#[_,fR,b,_,2,.str o,fR,fR,l,fR,B _ _ g H sm (by rw[A2];exact v)]
   rw[fD (show ¬ (mmOf m d).al o e=eX from by show ¬ decide (fq m o=fq m e)=eX;rw[c];exact Aw)] at g;refine#[_,fR,t,I,fs,fR,h1,h2.meth "ask_unlike" (by decide),_,fR,b,_,1,.str a,fR,fR,l,fR,_,fR,G,t,td,m,d,tk,dq,am,a,e,fR,v,R,λH1 k1 n=>?_];let(p,pd,da,I,fs,dv,h1,h2,_):=n.ex;refine#[_,fR,t,I,fs,fR,h1,h2.meth "lies_outside" (by decide),_,fR,_,fR,G,t,td,m,d,tk,_,am,j,e,fR,n,R,λlo hl H2 k2 u=>#[_,fR,?_],λhl H2 k2 u=>#[_,fR,?_]];rw[hl] at g;refine#[_,fR,b,_,2,.str o,fR,fR,n.row (v.row l k1) k2,fR,B _ _ g H2 (Kp.tr k1 k2) ?_];rw[A4] at u;exact u;rw[hl] at g;exact ac g H2 _ (Kp.tr k1 k2) u
 let g:Fol.passF (mmOf m d) j e=.fail:=by
  unfold Fol.passF;show(match d.getD j [] with | [k,p,_,s]=>_ | [k,p,q]=>_|_=>_)=_;rw[y]
 exists _,fR,b,_,0,.str "tree",fR,fR,l,fR,fR,_,rfl;exact#[_,fR,b,_,0,.str "tree",fR,fR,l,fR,fR,_,fR,M g H sm v]
theorem a9r(T:Txt K mg C fI)(s:TTxt K mg C2 ae)(F:Fun K "cell_row" "Taking.cell_row" a5n f fd)(GT:FnOk P w K mg base CX0 4 gT dT eS (wf K C C2))(cT:eR GT C2 "take")(GG:FnOk P w K mg base CX0 3 gG dG eT (a3t K C C2))(U:eR GG C2 "gives"):FnOk P w K mg base CX0 5 f fd ["self","part"] (qg K C C2 λr=>∃a b c,r=[("cell":fS),a,b,c]):=by
 refine F.okA ["self","part","number","found"] λaf A outer s0 H vs Q E hr h nd=>?_;let(G,o,td,b,l,e,tk,dq,am,r,rfl,hT,hR,hN,hb,(x,u,v,rfl),ac,ah,O):=h;let Y:=j4 hr;let J:=hr.mono (j:=3) (by lia);exists _,fc (fz 2 nd (gi (qv 0) s.cl cT.meth GT hr cT.bind .nil gt (ft (fi K (qv 1) dl) fb)))
  (fc (gg (fo lu (qv 2) gu (fm _)) (ff (fx gu)) gd)
  (fc (fz 3 nd (ik Y (gh (K:=K) rfl (qv 0)) (qv 2) (λ_ _=>rfl)))
  (fc (gg (QW.qt (mo (fo kc (fi K (qv 3) dl) gj (fm _)) (mo (ld (j5 (gi (qv 0) s.cl U.meth GG J U.bind .nil gt (ft (fi K (qv 3) dl) (ft (fi K (qv 1) dl) fb))))) (ls (ld (j5 (gi (qv 0) s.cl U.meth GG J U.bind .nil gt (ft (fi K (qv 3) dl) (ft (fi K (qv 1) dl) fb))))))))) (ff (fx gu)) gd)
  (ff (fx (ie (fg (qv 2) fb)))))))
 nofun
 let B:Fol.rowF (mmOf l e) tk [("cell":fS),x,u,v]=Fol.cellF (mmOf l e) tk x u v:=rfl;unfold Fol.cellF at B;let(p,pd,da,L,fs,dv,h1,h2,_):=hT.ex;let ag:=hN.len hR.len;refine#[_,fR,o,L,fs,fR,h1,h2.meth "take" (by decide),_,fR,b,_,1,.str x,fR,fR,hb,fR,G,o,td,l,e,tk,dq,am,x,fR,hT,hR,by lia,λS k1 d=>?_];let n:Kp (XT o td) H S:=Kp.ofT k1;cases ht:Fol.takeF (mmOf l e) tk x with
 |none =>
  rw[ht] at B d;exact#[_,fR,fR,_,fR,O B S _ _ n d]
 |some j =>
  rw[ht] at B d;let(N,aa):=xt ht;let ab:=o0 j N;obtain⟨r,W⟩:∃r,e[j]?=eV r:=#[_,Ah ab]
  let X:e.getD j []=r:=by rw[A7,W];rfl
  let(p,pd,da,L,fs,dv,h1,h2,kw,kvs,t,g1,g2,y):=xa d W;let gp:=DGet.k (k:=Sum.inl ((j:fC):fB)) g1;rw[g2] at gp;let I:=hT.row hb n;let g:Fol.rowF (mmOf l e) tk [("cell":fS),x,u,v]=(match (generalizing:=false) e.getD j [] with | [k,_,M,s']=>if k="cell" /\ Fol.givesF (mmOf l e) M u=eX/\Fol.givesF (mmOf l e) s' v=eX then Fol.SRes.ok [j] [] else .fail|_=>.fail):=B;rw[X] at g;exists _,fR,fR,_,rfl;exists _,fR,o,C2,L,fs,.ref pd,fR,h1,s.cl,s.nP,h2.parts,_,fR,pd,_,fR,gp;let m:Fol.rowF (mmOf l e) tk [("cell":fS),x,u,v]=.fail->Q .non S:=λz=>O z S _ _ n d;rcases hR.parts r (Ar W) with⟨a,M,s',rfl⟩|⟨a,q',rfl⟩|⟨a,rfl⟩
  . exists _,fR,t,_,0,.str "cell",fR,fR,y,fR,fR,_,rfl;exists _,fR,o,L,fs,fR,h1,h2.meth "gives" (by decide),_,fR,t,_,2,.str M,fR,fR,y,fR,_,fR,b,_,2,.str u,fR,fR,I,fR,G,o,td,l,e,_,_,_,M,u,fR,d,_,rfl;refine iteB (λc=>m ?_) (λc=>?_);rw[g];exact fD (λz=>by rw[z.2.1] at c;cases c)
    let c':Fol.givesF (mmOf l e) M u=eX:=by simpa using c
    exists _,fR,o,L,fs,fR,h1,h2.meth "gives" (by decide),_,fR,t,_,3,.str s',fR,fR,y,fR,_,fR,b,_,3,.str v,fR,fR,I,fR,G,o,td,l,e,_,_,_,s',v,fR,d,_,rfl;refine iteB (λR=>m ?_) (λR=>?_);rw[g];exact fD (λz=>by rw[z.2.2] at R;cases R)
    let Z:Fol.givesF (mmOf l e) s' v=eX:=by simpa using R
    refine#[_,fR,fL,λD hD=>?_];let s2:=fe hD (.lst [.int (j:fB)]);exact ac [j] [] (by rw[g];exact fE #[fR,c',Z]) D _ _ (Kp.tr n (Kp.sm s2)) (by rw[A2];exact d.same s2) (hN.put N aa) ad
  . exact#[_,fR,t,_,0,.str "stretch",fR,fR,y,fR,fR,_,fR,m g]
  exact#[_,fR,t,_,0,.str "tree",fR,fR,y,fR,fR,_,fR,m g]
def acc(js:eZ fC)(q:fH):Fol.SRes->Fol.SRes
 |.ok js' q'=>.ok (js++js') (q++q')
 |x=>x
theorem acv(d:eZ fC)(q:fH)(j:fC)(c:fH)(r:Fol.SRes):acc d q (r.put j c)=acc (d++[j]) (q++c) r:=by
 cases r with|ok a b=>show Fol.SRes.ok _ _=.ok _ _;rw[A4,A4];rfl|amid _=>rfl|fail=>rfl
theorem fM:0<=IR:=by decide
theorem adl(T:Txt K mg C fI)(T2:TTxt K mg C2 aM)(F:Fun K "stretch_row" "Taking.stretch_row" acg f fd)(GT:FnOk P w K mg base CX0 4 gT dT eS (wf K C C2))(cT:eR GT C2 "take")(GA:FnOk P w K mg base CX0 2 gA dA eT (lw C))(cA:eR GA C "alike")(GP:FnOk P w K mg base CX0 5 gP dP ["self","number","end"] (a0m K C C2))(cP:MCal K C2 "passed" gP dP ["self","number","end"]):FnOk P w K mg base CX0 6 f fd ["self","part"] (qg K C C2 λr=>∃a b,r=[("stretch":fS),a,b]):=by
 refine F.okA ["self","part","row","place","number"] λaN A outer s0 H vs Q E hr h nd=>?_;let(G,t,td,b,d,g,tk,dq,am,r,rfl,hT,hR,hN,Y,(x,e,rfl),av,ab,aa):=h;let aO:=j4 hr;let ar:=hr.mono (j:=2) (by lia);let aE:=hr.mono (j:=4) (by lia);exists _,fc (fz 2 nd (ie fb))
  (fc (fz 3 nd (fi K (qv 1) dl))
  (fc (mj A1 (ld (j5 (gi (gh (K:=K) rfl (qv 0)) T.cl cA.meth GA ar cA.bind .nil gt (fg (qv 3) (ft (fi K (qv 1) dl) fb))))) (fc (fz 4 nd (gi (qv 0) T2.cl cT.meth GT aE cT.bind .nil gt (fg (qv 3) fb)))
  (fc (gg (fo lu (qv 4) gu (fm _)) (ff (fx gu)) gd)
  (fc (fz 3 nd (gi (qv 0) T2.cl cP.meth GP hr cP.bind .nil gt (fg (qv 4) (ft (fi K (qv 1) dl) fb))))
  (fc (gg (fo lu (qv 3) gu (fm _)) (ff (fx gu)) gd)
  (ff (ia (jv (K:=K) rfl A8 AO AQ ji (qv 2) (fg (qv 4) fb)))))))))
  (ff (fx (qv 2)))))
 nofun
 rw[Fol.end2_str] at ab;let rf:Fol.rowF (mmOf d g) tk [("stretch":fS),x,e]=Fol.strF (mmOf d g) e 20 tk x:=rfl;let aL:=hN.len hR.len;refine#[fM,λD hD=>?_];let s1:=fe hD (.lst []);let aT:=hT.free hD;let aj:G D=eW:=hT.sm.free hD;exists _,fR,b,_,1,.str x,fR,fR,Y.same s1,rfl;refine rm (λn σ X=>Ex5 λ(k:eZ fC) (N:fH) (a:fS) (z:fA V) (xs:eZ V)=>And8 (σ=[rQ t,rQ b,rQ D,eV (.str a),z]) (Kp (XT t td) H X) (TkAt K C C2 G X t td d g (tk++k) (dq++N) am) (X D=eV (.lst xs)) (xs.length=k.length) (TkN d g (tk++k)) (n+k.length=20) (Fol.strF (mmOf d g) e 20 tk x=acc k N (Fol.strF (mmOf d g) e n (tk++k) a))) (m0:=20) #[[],[],x,eW,[],fR,Kp.sm s1,by rw[A2,A2];exact hT.same s1,ad,fR,by rw[A2];exact hN,fR,by rw[A2];cases Fol.strF (mmOf d g) e 20 tk x<;>rfl] ?_ ?_
 . rintro n σ X ⟨k,N,a,z,xs,rfl,k2,l,y,aH,U,hn,u⟩
   nofun
   let aU:k.length<=15:=by let:=U.len hR.len;rw[Aj] at this;lia
   obtain⟨n,rfl⟩:∃m,n=m+1:=#[n-1,by lia]
   let(p,pd,da,dx,fs,dv,h1,h2,hG):=l.ex;let kw:KwAt K C X p d g:=hG.kw.same l.sm;let(aD,hd,un,fu,D',L,Fl,hK,ak,_):=kw.ex;let((hm,uk,hk,hok,hU),aw,aS):=id hK;let((aJ,ap,az,aB,_),_):=id ak;let ae:=hT.row Y k2;exists _,fR,t,C2,dx,fs,.ref p,fR,h1,T2.cl,T2.nK,h2.kn,p,aJ,ap,fR,az,aB.meth "alike" (by decide),_,fR,_,fR,b,_,2,.str e,fR,fR,ae,fR,p,aD,hd,un,fu,hm,uk,a,e,fR,hk;rw[hok.hd,hok.hd];refine#[_,fR,iteB (λc=>?_) (λc=>?_)]
   . let c':¬ (mmOf d g).al a e=eX:=by
      show ¬ decide (fq d a=fq d e)=eX;simpa using c
     let s:Fol.strF (mmOf d g) e (n+1) (tk++k) a=match Fol.takeF (mmOf d g) (tk++k) a with
      |none=>.fail
      |some j=>match Fol.passF (mmOf d g) j e with
       |.fail=>.fail
       |.amid=>.amid j
       |.ok I J=>(Fol.strF (mmOf d g) e n (tk++k++[j]) I).put j J:=by
      rw[Fol.strF];exact fD c'
     refine#[_,fR,t,dx,fs,fR,h1,h2.meth "take" (by decide),_,fR,G,t,td,d,g,_,_,am,a,fR,l,hR,by rw[Aj];lia,λH3 k3 R=>?_];let O:Kp (XT t td) H H3:=Kp.tr k2 (Kp.ofT k3);cases ht:Fol.takeF (mmOf d g) (tk++k) a with
     |none =>
      rw[ht] at s R;exact#[_,fR,fR,_,fR,aa (by rw[rf,u,s];rfl) H3 _ _ O R]
     |some j =>
      rw[ht] at s R;let(Z,aC):=xt ht;obtain⟨r,hj⟩:∃r,g[j]?=eV r:=#[_,Ah (o0 j Z)]
      let v:TkAt K C C2 G H3 t td d g (tk++k++[j]) (dq++N) am:=R;let(p3,aP,aR,ai,an,aQ,aq,ay,_):=v.ex;let aF:=l.row ae (Kp.ofT k3);exists _,fR,fR,_,rfl;refine#[_,fR,t,ai,an,fR,aq,ay.meth "passed" (by decide),_,fR,_,fR,b,_,2,.str e,fR,fR,aF,fR,G,t,td,d,g,_,_,am,j,e,r,fR,v,hR,hj,λI J hp H4 S B=>?_,λhp H4 aG S B=>?_,λhp H4 S B=>?_]
      . let M:Fol.passF (mmOf d g) j e=.ok I J:=hp;let ac:Fol.strF (mmOf d g) e 20 tk x=acc (k++[j]) (N++J) (Fol.strF (mmOf d g) e n (tk++(k++[j])) I):=by
         rw[u,s];show acc k N (match Fol.passF (mmOf d g) j e with|.fail=>.fail|.amid=>.amid j|.ok I J=>(Fol.strF (mmOf d g) e n (tk++k++[j]) I).put j J)=_;rw[M,<- A4];exact acv _ _ _ _ _
        exists _,fR,fR,_,rfl;let W:=S _ _ (Kp.ofT (q:=t) k3 _ _ y (l.lst y)) (v.lst (Kp.ofT (q:=t) k3 _ _ y (l.lst y)));exists _,fR,.inl #[fR,_,SqL.of W],_,fR,D,_,_,fR,fR,W,AI (show xs.length<=15 by lia) (by decide);refine#[n,BB n,k++[j],N++J,I,_,_,fR,λb o Y n=>?_,?_,ad,?_,?_,?_,ac];rw[fh (gc Y hD)];exact S _ _ (O _ _ Y n) n;rw[<- A4,<- A4];exact B.lput aj W _;rw[Aj,Aj,aH];rfl;rw[<- A4];exact U.put Z aC;rw[Aj,Av];lia
      . let M:Fol.passF (mmOf d g) j e=.amid:=hp;refine#[_,fR,fR,_,fR,ab j ?_ H4 _ aG (Kp.tr O S) B];rw[rf,u,s];show acc k N (match Fol.passF (mmOf d g) j e with|.fail=>.fail|.amid=>.amid j|.ok I J=>(Fol.strF (mmOf d g) e n (tk++k++[j]) I).put j J)=_;rw[M];rfl
      let M:Fol.passF (mmOf d g) j e=.fail:=hp;refine#[_,fR,fR,_,fR,aa ?_ H4 _ _ (Kp.tr O S) B];rw[rf,u,s];show acc k N (match Fol.passF (mmOf d g) j e with|.fail=>.fail|.amid=>.amid j|.ok I J=>(Fol.strF (mmOf d g) e n (tk++k++[j]) I).put j J)=_;rw[M];rfl
   let c':(mmOf d g).al a e=eX:=by
    show decide (fq d a=fq d e)=eX;simpa using c
   refine#[_,fR,av k N ?_ D xs X k2 l U y];rw[rf,u,Fol.strF,fE c'];show Fol.SRes.ok _ _=_;rw[A2,A2]
 rintro σ X Q1 Q2 hq ⟨v1,e1,a1,a2,a3,a4,a5,e2,e3,e4,e5,e6,p1,p2,p3,e7,e8,e9,v2,ax,v3,ah,b1,b2,b3,b4,aA,aI,af,ag,k1,k2,k3,S,k5,k6,k7,k8,k9,au,aK,b9,ao,hQ⟩;exact#[v1,e1,a1,a2,a3,a4,a5,e2,e3,e4,e5,e6,p1,p2,p3,e7,e8,e9,v2,ax,v3,ah,b1,b2,b3,b4,aA,aI,af,ag,k1,k2,k3,S,k5,k6,k7,k8,k9,au,aK,b9,ao,hq _ _ hQ]
theorem a3d(a:fJ):inV (V.str "any") (a.map V.str)=decide (("any":fS)∈a):=by
 unfold inV;induction a with
 |nil=>rfl
 |cons x a ih =>
  rw[A5,Dw,ih];show((x==("any":fS)) || _)=_;rw[Bm,Ik,beq_iff_eq,fZ,fZ,Ak];exact#[λz=>z.imp Io id,λz=>z.imp Io id]
theorem q7(a:fJ):(a.map V.str).all o3=eX:=by
 rw[Bo];intro v hv;let(x,_,rfl):=As.mp hv;rfl
theorem a92(T:Txt K mg C fI)(T2:TTxt K mg C2 aU)(F:Fun K "tree_row" "Taking.tree_row" a6u f fd)(GT:FnOk P w K mg base CX0 4 gT dT eS (wf K C C2))(cT:eR GT C2 "take")(GA:FnOk P w K mg base CX0 2 gA dA eT (lw C))(cA:eR GA C "alike"):FnOk P w K mg base CX0 5 f fd ["self","part"] (qg K C C2 λr=>∃a,r=[("tree":fS),a]):=by
 refine F.okA ["self","part","row","coming","place","number","found"] λaV A outer s0 H vs Q E hr h nd=>?_;let(G,B,td,b,e,g,tk,dq,am,r,rfl,hT,hR,hN,Z,(x,rfl),aI,aW,aw):=h;let aE:=j4 hr;let aH:=hr.mono (j:=2) (by lia);exists _,fc (fz 2 nd (ie fb))
  (fc (fz 3 nd (ie (ft (fi K (qv 1) dl) fb)))
  (fc (mj A1 (vx (K:=K) (qv 3)) (fc (fz 4 nd (a6x A8 CN Eh a7e (qv 3)))
  (ff (gg (ld (j5 (gi (gh (K:=K) rfl (qv 0)) T.cl cA.meth GA aH cA.bind .nil gt (fg (qv 4) (gw fb))))) (fc (fz 5 nd (gi (qv 0) T2.cl cT.meth GT hr cT.bind .nil gt (fg (qv 4) fb)))
  (fc (gg (fo lu (qv 5) gu (fm _)) (ff (fx gu)) gd)
  (fc (fz 6 nd (ik aE (gh (K:=K) rfl (qv 0)) (qv 5) (λ_ _=>rfl)))
  (fc (gg (QW.qt (mo (fo gk (fi K (qv 6) dl) gj (fm _)) (ls (fo ud gj (qv 6) (by with_unfolding_all rfl))))) (ff (fx gu)) gd)
  (fc (gg (fo gk (fi K (qv 6) dl) gj (fm _)) (ff (ia (jv (K:=K) rfl A8 CJ CK qo (qv 3) (ac6 (ft (fi K (qv 6) dl) (ft (fi K (qv 6) dl) fb)) fb)))) gd)
  (ff (ia (jv (K:=K) rfl A8 AO AQ ji (qv 2) (fg (qv 5) fb))))))))) gd))))
  (ff (fx (qv 2)))))
 nofun
 let rf:Fol.rowF (mmOf e g) tk [("tree":fS),x]=match Fol.treeF (mmOf e g) 60 tk [x] with|none=>.fail|some d=>.ok d []:=rfl
 refine#[fM,λD hD=>?_];let s1:=fe hD (.lst []);let aC:G D=eW:=hT.sm.free hD;refine#[_,fR,b,_,1,.str x,fR,fR,Z.same s1,fR,fL,λco ap=>?_];let s2:=fe ap (.lst [.str x]);let an:D≠co:=gc ad ap;let U:H co=eW:=s1.free ap;let aA:G co=eW:=hT.sm.free U;refine rm (λn σ N=>∃(d:eZ fC) (cs:fJ) (z1 z2 z3:fA V) (xs:eZ V),σ=[rQ B,rQ b,rQ D,rQ co,z1,z2,z3]/\Kp (XT B td) H N/\TkAt K C C2 G N B td e g (tk++d) dq am/\N D=eV (.lst xs)/\xs.length=d.length/\N co=eV (.lst (cs.reverse.map V.str))/\TkN e g (tk++d)/\30+cs.length<n+2*d.length/\cs.length<=1+2*d.length/\Fol.treeF (mmOf e g) 60 tk [x]=(Fol.treeF (mmOf e g) n (tk++d) cs).map (d ++ ·)) (m0:=60) #[[],[x],eW,eW,eW,[],fR,Kp.sm (s1.trans s2),by rw[A2];exact hT.same (s1.trans s2),s2 _ _ ad,fR,ad,by rw[A2];exact hN,(by show 30+1<60+2*0;decide),(by show 1<=1+2*0;decide),by rw[A2];cases Fol.treeF (mmOf e g) 60 tk [x]<;>rfl] ?_ ?_
 . rintro n σ N ⟨d,cs,z1,z2,z3,xs,rfl,k2,ax,aq,aB,ae,R,hn,aM,O⟩
   nofun
   let aZ:d.length<=15:=by let:=R.len hR.len;rw[Aj] at this;lia
   let aX:(tk++d).length<=15:=R.len hR.len;obtain⟨n,rfl⟩:∃m,n=m+1:=#[n-1,by lia]
   refine#[_,fR,_,.inl #[_,SqL.of ae,fR],iteB (λc=>?_) (λc=>?_)]
   . cases cs with
     |nil=>cases c
     |cons y cs =>
     let ao:((y::cs).reverse.map V.str)[((y::cs).reverse.map V.str).length-1]?=eV (.str y):=by
      rw[Bw,Ax];simp
     let aG:((y::cs).reverse.map V.str).dropLast=cs.reverse.map V.str:=by
      rw[Bw,Ax];simp
     let aL:(y::cs).length=cs.length+1:=rfl;rw[aL] at hn aM;exists _,fR,.inl #[fR,_,SqL.of ae],co,_,.str y,fR,fR,ae,ao;rw[aG];let k3:Kp (XT B td) H (upd N co (.lst (cs.reverse.map V.str))):=λb o Z n=>by rw[fh (gc Z U)];exact k2 _ _ Z n
     let J:=ax.lput aA ae (cs.reverse.map V.str);let ab:(upd N co (.lst (cs.reverse.map V.str))) D=eV (.lst xs):=by rw[fh an];exact aq
     let ag:(upd N co (.lst (cs.reverse.map V.str))) co=eV (.lst (cs.reverse.map V.str)):=ad;show jh 4 (V.str y) _ (upd N co (.lst (cs.reverse.map V.str))) _;generalize upd N co (.lst (cs.reverse.map V.str))=H3 at k3 J ab ag |-;let(p,pd,da,dx,fs,dv,h1,h2,hG):=J.ex;let kw:KwAt K C H3 p e g:=hG.kw.same J.sm;let(aS,hd,un,fu,D',L,Fl,hK,aD,_):=kw.ex;let((hm,uk,hk,hok,hU),aJ,aY):=id hK;let((aT,aF,aO,aQ,_),_):=id aD;exists _,fR,B,C2,dx,fs,.ref p,fR,h1,T2.cl,T2.nK,h2.kn,p,aT,aF,fR,aO,aQ.meth "alike" (by decide),_,fR,p,aS,hd,un,fu,hm,uk,y,"nil",fR,hk;rw[hok.hd,hok.hd];refine#[_,fR,iteB (λc=>?_) (λc=>?_)]
     . let c':¬ (mmOf e g).al y "nil"=eX:=by
        show ¬ decide (fq e y=fq e "nil")=eX;simpa using c
       let ac:Fol.treeF (mmOf e g) (n+1) (tk++d) (y::cs)=match Fol.takeF (mmOf e g) (tk++d) y with
        |none=>eW
        |some j=>match (mmOf e g).P.getD j [] with
         |[k,p]=>if k="tree" /\ ¬ p="any" then(Fol.treeF (mmOf e g) n (tk++d++[j]) cs).map (j :: ·) else eW
         |[k,p,f,s]=>if k="cell" /\ ¬ p="any" /\ ¬ f="any" /\ ¬ s="any" then(Fol.treeF (mmOf e g) n (tk++d++[j]) (f::s::cs)).map (j :: ·) else eW
         |_=>eW:=by
        rw[Fol.treeF];exact fD c'
       refine#[_,fR,B,dx,fs,fR,h1,h2.meth "take" (by decide),_,fR,G,B,td,e,g,_,_,am,y,fR,J,hR,by lia,λW k4 S=>?_];let ai:Kp (XT B td) H W:=Kp.tr k3 (Kp.ofT k4);cases ht:Fol.takeF (mmOf e g) (tk++d) y with
       |none =>
        rw[ht] at ac S;exact#[_,fR,fR,_,fR,aw (by rw[rf,O,ac];rfl) W _ _ ai S]
       |some j =>
        rw[ht] at ac S;let(av,aR):=xt ht;obtain⟨r,hj⟩:∃r,g[j]?=eV r:=#[_,Ah (o0 j av)]
        let aN:g.getD j []=r:=by rw[A7,hj];rfl
        let X:TkAt K C C2 G W B td e g (tk++d++[j]) dq am:=S;let u:Fol.treeF (mmOf e g) (n+1) (tk++d) (y::cs)=match (generalizing:=false) g.getD j [] with
         |[k,p]=>if k="tree" /\ ¬ p="any" then(Fol.treeF (mmOf e g) n (tk++d++[j]) cs).map (j :: ·) else eW
         |[k,p,f,s]=>if k="cell" /\ ¬ p="any" /\ ¬ f="any" /\ ¬ s="any" then(Fol.treeF (mmOf e g) n (tk++d++[j]) (f::s::cs)).map (j :: ·) else eW
         |_=>eW:=ac
        rw[aN] at u;let(p,pd,da,dx,fs,dv,h1,h2,kw,kvs,Y,g1,g2,g3):=xa X hj;let gp:=DGet.k (k:=Sum.inl ((j:fC):fB)) g1;rw[g2] at gp;let af:=k4 _ _ ab (λz=>J.lst ab (.inr z));let ah:=k4 _ _ ag (λz=>J.lst ag (.inr z));let aj:Fol.treeF (mmOf e g) (n+1) (tk++d) (y::cs)=eW->Q .non W:=λz=>aw (by rw[rf,O,z];rfl) W _ _ ai S;exists _,fR,fR,_,rfl;exists _,fR,B,C2,dx,fs,.ref pd,fR,h1,T2.cl,T2.nP,h2.parts,_,fR,pd,_,fR,gp;let ay:∀(H5:Hp) (M:fJ),Kp (XT B td) H H5->TkAt K C C2 G H5 B td e g (tk++d++[j]) dq am->H5 D=eV (.lst xs)->H5 co=eV (.lst (M.reverse.map V.str))->M.length<=cs.length+2->Fol.treeF (mmOf e g) (n+1) (tk++d) (y::cs)=(Fol.treeF (mmOf e g) n (tk++d++[j]) M).map (j :: ·)->∃(_:xs.length<IR),∃m',m'<n+1/\∃(d:eZ fC) (cs:fJ) (y1 y2 y3:fA V) (au:eZ V),[eV (V.ref B),eV (.ref b),eV (.ref D),eV (.ref co),eV (.str y),eV (.int (j:fB)),eV (.ref Y)]=[rQ B,rQ b,rQ D,rQ co,y1,y2,y3]/\Kp (XT B td) H (upd H5 D (.lst (xs++[.int (j:fB)])))/\TkAt K C C2 G (upd H5 D (.lst (xs++[.int (j:fB)]))) B td e g (tk++d) dq am/\(upd H5 D (.lst (xs++[.int (j:fB)]))) D=eV (.lst au)/\au.length=d.length/\(upd H5 D (.lst (xs++[.int (j:fB)]))) co=eV (.lst (cs.reverse.map V.str))/\TkN e g (tk++d)/\30+cs.length<m'+2*d.length/\cs.length<=1+2*d.length/\Fol.treeF (mmOf e g) 60 tk [x]=(Fol.treeF (mmOf e g) m' (tk++d) cs).map (d ++ ·):=λH5 M k5 aP aK ak az he=>by
         exists AI (show xs.length<=15 by lia) (by decide),n,BB n,d++[j],M,_,_,_,_,fR,λb o Z n=>?_,?_,ad,?_,?_,?_,?_,?_;rw[fh (gc Z hD)];exact k5 _ _ Z n;rw[<- A4];exact aP.lput aC aK _;rw[Aj,Aj,aB];rfl;rw[fh (AE an)];exact ak;rw[<- A4];exact R.put av aR;rw[Aj,Av];lia;rw[Aj,Av];lia
         rw[O,he,<- A4];cases Fol.treeF (mmOf e g) n (tk++d++[j]) M with|none=>rfl|some l=>show eV (d++(j::l))=eV (d++[j]++l);rw[A4];rfl
        rcases hR.parts r (Ar hj) with⟨a,I,s',rfl⟩|⟨a,q',rfl⟩|⟨a,rfl⟩
        . exists _,fR,Y,_,0,.str "cell",fR,fR,g3,fR,fR,_,rfl;exists _,fR,Y,_,fR,.inr g3,fR,q7 _;rw[a3d];refine#[_,fR,iteB (λc3=>aj ?_) (λc3=>?_)]
          . let t:("any":fS)∈[("cell":fS),a,I,s']:=by simpa using c3
            rw[u];refine fD λz=>?_;simp only[Ak,Aq,gD] at t;rcases t with y|y|y|y;exact fF y (by decide);exact z.2.1 y.symm;exact z.2.2.1 y.symm;exact z.2.2.2 y.symm
          let t:¬ ("any":fS)∈[("cell":fS),a,I,s']:=by simpa using c3
          let na:¬ a="any" /\ ¬ I="any" /\ ¬ s'="any" := #[λz=>t (by rw[z];simp),λz=>t (by rw[z];simp),λz=>t (by rw[z];simp)]
          let he:Fol.treeF (mmOf e g) (n+1) (tk++d) (y::cs)=(Fol.treeF (mmOf e g) n (tk++d++[j]) (I::s'::cs)).map (j :: ·):=by rw[u];exact fE #[fR,na]
          exists _,fR,Y,_,0,.str "cell",fR,fR,g3,fR,fR,_,rfl;refine#[_,fR,.inl #[fR,_,SqL.of ah],_,fR,Y,_,3,.str s',fR,fR,g3,fR,_,fR,Y,_,2,.str I,fR,fR,g3,fR,fK,λl5 az=>?_];let s5:=fe az (.lst [.str s',.str I]);exists co,l5,_,_,fR,fR,s5 _ _ ah,ad,?_;rw[Ad,CM];exact jt (show cs.length+2<=1000 by lia)
          let ak:=s5 _ _ ah;let q6:(upd (upd W l5 (.lst [.str s',.str I])) co (.lst (cs.reverse.map V.str++[.str s',.str I]))) co=eV (.lst ((I::s'::cs).reverse.map V.str)):=by
           rw[ad,Bw,Bw,A4,Ax];rfl
          let ar:TkAt K C C2 G (upd (upd W l5 (.lst [.str s',.str I])) co (.lst (cs.reverse.map V.str++[.str s',.str I]))) B td e g (tk++d++[j]) dq am:=(X.same s5).lput aA ak _;let aa:(upd (upd W l5 (.lst [.str s',.str I])) co (.lst (cs.reverse.map V.str++[.str s',.str I]))) D=eV (.lst xs):=by rw[fh an];exact s5 _ _ af
          let k6:Kp (XT B td) H (upd (upd W l5 (.lst [.str s',.str I])) co (.lst (cs.reverse.map V.str++[.str s',.str I]))):=λb o Z n=>by rw[fh (gc Z U)];exact s5 _ _ (ai _ _ Z n)
          generalize upd (upd W l5 (.lst [.str s',.str I])) co (.lst (cs.reverse.map V.str++[.str s',.str I]))=H6 at q6 ar aa k6 |-;let(w1,w2):=ay H6 (I::s'::cs) k6 ar aa q6 (An _) he;exact#[_,fR,.inl #[fR,_,SqL.of aa],_,fR,D,_,_,fR,fR,aa,w1,w2]
        . exact#[_,fR,Y,_,0,.str "stretch",fR,fR,g3,fR,fR,_,fR,aj u]
        exists _,fR,Y,_,0,.str "tree",fR,fR,g3,fR,fR,_,rfl;exists _,fR,Y,_,fR,.inr g3,fR,q7 _;rw[a3d];refine#[_,fR,iteB (λc3=>aj ?_) (λc3=>?_)]
        . let t:("any":fS)∈[("tree":fS),a]:=by simpa using c3
          rw[u];refine fD λz=>?_;simp only[Ak,Aq,gD] at t;rcases t with y|y;exact fF y (by decide);exact z.2 y.symm
        let t:¬ ("any":fS)∈[("tree":fS),a]:=by simpa using c3
        let he:Fol.treeF (mmOf e g) (n+1) (tk++d) (y::cs)=(Fol.treeF (mmOf e g) n (tk++d++[j]) cs).map (j :: ·):=by rw[u];exact fE #[fR,λz=>t (by rw[z];simp)]
        exists _,fR,Y,_,0,.str "tree",fR,fR,g3,fR,fR,_,rfl;let(w1,w2):=ay W cs ai X af ah (by lia) he;exact#[_,fR,.inl #[fR,_,SqL.of af],_,fR,D,_,_,fR,fR,af,w1,w2]
     let c':(mmOf e g).al y "nil"=eX:=by
      show decide (fq e y=fq e "nil")=eX;simpa using c
     refine#[n,BB n,d,cs,_,_,_,xs,fR,k3,J,ab,aB,ag,R,by lia,by lia,?_];rw[O,Fol.treeF,fE c']
   cases cs with
   |cons y cs=>rw[Bw,Ax] at c;simp at c
   |nil =>
    refine#[_,fR,aI d [] ?_ D xs N k2 (by rw[A2];exact ax) R aq];rw[rf,O,Fol.treeF];show Fol.SRes.ok (d++[]) []=_;rw[A2]
 rintro σ N Q1 Q2 hq ⟨v,h1,k,h2,h3⟩;exact#[v,h1,k,h2,hq _ _ h3]
theorem aba{dS:JO}(s:TTxt K mg C2 M)(F:Fun K "row_of" "Taking.row_of" a5k f fd)(N:FnOk P w K mg base CX0 5 S Y eS (qg K C C2 λr=>∃a b c,r=[("cell":fS),a,b,c]))(D:eR N C2 "cell_row")(U:FnOk P w K mg base CX0 6 T dS eT (qg K C C2 λr=>∃a b,r=[("stretch":fS),a,b]))(J:eR U C2 "stretch_row")(W:FnOk P w K mg base CX0 5 R X eU (qg K C C2 λr=>∃a,r=[("tree":fS),a]))(L:eR W C2 "tree_row"):FnOk P w K mg base CX0 7 f fd ["self","part"] (qg K C C2 PartRow):=by
 refine F.okA ["self","part"] λO A outer s0 H vs Q E I h _=>?_;let(G,k,td,b,u,y,tk,dq,am,r,rfl,o,v,x,n,d,q):=h;let m:=I.mono (j:=5) (by lia);exists _,fc (gg (fo gk (fi K (qv 1) dl) gj (fm _)) (ff (fx (gi (qv 0) s.cl D.meth N m D.bind .nil gt (fg (qv 1) fb)))) gd)
  (ff (fx (nq (fo gk (fi K (qv 1) dl) gj (fm _)) (gi (qv 0) s.cl J.meth U I J.bind .nil gt (fg (qv 1) fb)) (gi (qv 0) s.cl L.meth W m L.bind .nil gt (fg (qv 1) fb)))))
 nofun
 let(p,pd,da,B,fs,dv,h1,h2,_):=o.ex;refine#[_,fR,b,_,0,_,fR,fR,n,d.at0,fR,_,fR,iteB (λc=>?_) (λc=>?_)]
 . let l:r.getD 0 ""="cell" := by simpa using c
   refine#[_,fR,k,B,fs,fR,h1,h2.meth "cell_row" (by decide),_,fR,G,k,td,b,u,y,tk,dq,am,r,fR,o,v,x,n,?_,q];rcases d with z|⟨a,e,rfl⟩|⟨a,rfl⟩;exact z;exact fF l (by show ¬ ("stretch":fS)="cell";decide);exact fF l (by show ¬ ("tree":fS)="cell";decide)
 let l:¬ r.getD 0 ""="cell" := by simpa using c
 refine#[_,fR,b,_,0,_,fR,fR,n,d.at0,fR,_,fR,iteB (λt=>?_) (λt=>?_)]
 . let i:r.getD 0 ""="stretch" := by simpa using t
   refine#[_,fR,k,B,fs,fR,h1,h2.meth "stretch_row" (by decide),_,fR,G,k,td,b,u,y,tk,dq,am,r,fR,o,v,x,n,?_,q];rcases d with⟨a,e,g,rfl⟩|z|⟨a,rfl⟩
   . exact fF rfl l
   . exact z
   exact fF i (by show ¬ ("tree":fS)="stretch";decide)
 let i:¬ r.getD 0 ""="stretch" := by simpa using t
 refine#[_,fR,k,B,fs,fR,h1,h2.meth "tree_row" (by decide),_,fR,G,k,td,b,u,y,tk,dq,am,r,fR,o,v,x,n,?_,q];rcases d with⟨a,e,g,rfl⟩|⟨a,e,rfl⟩|z
 . exact fF rfl l
 . exact fF rfl i
 exact z
theorem ab3(xs:eZ V)(Pv:IS->fC->eZ V->Hp->Prop)(e:JSeq J q xs)(d:∀D i ys H,Pv D i ys H->q H)(hz:xs.length<=1000)(n:∀D,c D=eW->Pv D 0 [] (upd c D (.lst [])))(s:∀D i ys H x,c D=eW->Pv D i ys H->H D=eV (.lst ys)->ys.length=i->xs[i]?=eV x->k (eV x::jy σ r) H λy h=>h D=eV (.lst ys)/\Pv D (i+1) (ys++[y]) (upd h D (.lst (ys++[y]))))(mono:∀σ H Q l,(∀b c,Q b c->l b c)->k σ H Q->k σ H l)(t:∀D ys H,c D=eW->Pv D xs.length ys H->H D=eV (.lst ys)->ys.length=xs.length->Q (.ref D) H):oa J c σ r tYes k Q:=by
 intro D j;exists λi m H=>i<=xs.length/\m=xs.length-i/\∃ys,Pv D i ys H/\H D=eV (.lst ys)/\ys.length=i,#[xs.length,AF _,fR,[],n D j,ad,fR];rintro i m H ⟨hi,rfl,ys,hp,hd,hl⟩;by_cases a:i<xs.length;refine .inr #[e.go i H (d _ _ _ _ hp) a,λx H' f=>?_];let(rfl,o):=e.yld i H x H' a (d _ _ _ _ hp) f;unfold tYes;dsimp only;rw[fE rfl];refine mono _ _ _ _ (λy h #[g1,p]=>?_) (s D i ys H' x j hp hd hl o);exact#[ys,g1,AI (show ys.length<=1000 by lia) (by decide),xs.length-(i+1),by lia,a,fR,ys++[y],p,ad,by rw[Aj,Av,hl]]
 let g:i=xs.length:=by lia
 subst g;exact .inl #[e.stop _ H (d _ _ _ _ hp) (An _),t D ys H j hp hd hl]
def T2At(K:Aa)(H:Hp)(t:IS)(G S:fG):Prop:=∃a b,SqT K H t [.ref a,.ref b]/\RowsAt K H a G/\RowsAt K H b S
theorem T2At.same(h:T2At K H t G S)(e:Same H H'):T2At K H' t G S:=by
 let(a,b,h1,h2,h3):=h;exact#[a,b,e.seqT h1,h2.same e,h3.same e]
def mt(F:fG)(r:fJ):gQ:=if r.getD 0 ""="is" then alB F (r.getD 1 "") (r.getD 2 "") else !alB F (r.getD 1 "") (r.getD 2 "")
def ng(rs:fG):fH:=rs.filterMap λ(r:fJ)=>if(r.getD 0 "":fS)=("is":fS) then eW else eV ((r.getD 1 "",r.getD 2 ""):fS×fS)
def accR(jss:eZ (eZ fC))(q:fH):Fol.RRes->Fol.RRes
 |.ok jss' q'=>.ok (jss++jss') (q++q')
 |.amid i j=>.amid (jss.length+i) j
 |.fail=>.fail
theorem a8z:∀r:Fol.RRes,accR [] [] r=r
 |.ok _ _=>rfl
 |.amid i j=>fX (λn=>Fol.RRes.amid n j) (Ft i)
 |.fail=>rfl
inductive spRowsOfS(K:Aa)(C C2:IS)(vs:eZ V)(H:Hp)(Q:VK):Prop
 |mk (G:Hp)(q td t:IS)(F P Gs S:fG)(h0:vs=[.ref q,.ref t])(h1:TkAt K C C2 G H q td F P [] [] eW)(h2:Rd0 F P)(h3:T2At K H t Gs S)(h4:(∀r∈Gs,i5 r))(h5:(∀r∈S,PartRow r))(h6:Gs.length<=100)(h7:S.length<=15)(h8:(Gs.all (mt F)=eY->∀H' dq',Kp (XT q td) H H'->TkAt K C C2 G H' q td F P [] dq' eW->Q .non H'))(h9:(Gs.all (mt F)=eX->(∀jss qs,Fol.rowsF (mmOf F P) [] S=.ok jss qs->∀D xs H',Kp (XT q td) H H'->TkAt K C C2 G H' q td F P jss.flatten (ng Gs++qs) eW->H' D=eV (.lst xs)->Q (.ref D) H')/\(∀i j,Fol.rowsF (mmOf F P) [] S=.amid i j->∀H' tk' dq',Kp (XT q td) H H'->TkAt K C C2 G H' q td F P tk' dq' (eV (j,end2 (S.getD i [])))->Q .non H')/\(Fol.rowsF (mmOf F P) [] S=.fail->∀H' tk' dq',Kp (XT q td) H H'->TkAt K C C2 G H' q td F P tk' dq' eW->Q .non H'))):spRowsOfS K C C2 vs H Q
def vv(K:Aa)(C C2:IS):Sp:=λvs H Q _=>spRowsOfS K C C2 vs H Q
inductive spLeavesS(K:Aa)(C C2:IS)(vs:eZ V)(H:Hp)(Q:VK):Prop
 |mk (G:Hp)(q td:IS)(F P:fG)(tk:eZ fC)(dq:fH)(am:fA (fC×fS))(h0:vs=[.ref q])(h1:TkAt K C C2 G H q td F P tk dq am)(h2:P.length<=15)(h3:∀(b:gQ) H',Same H H'->(b=eX↔∃j∈neOf F P,¬ j∈tk)->Q (.bl b) H'):spLeavesS K C C2 vs H Q
def vy(K:Aa)(C C2:IS):Sp:=λvs H Q _=>spLeavesS K C C2 vs H Q
section
variable{K:Aa}{C C2:IS}{G H H':Hp}{q td:IS}{F P:fG}{tk:eZ fC}{dq:fH}{am:fA (fC×fS)} in
theorem TkAt.rows(h:TkAt K C C2 G H q td F P tk dq am){a:IS}{as:eZ IS}{rs:fG}(c:H a=eV (.lst (as.map V.ref)))(hp:IZ (λb r=>RowAt K H b r) as rs)(k:Kp (XT q td) H H'):H' a=eV (.lst (as.map V.ref))/\IZ (λb r=>RowAt K H' b r) as rs:=#[k _ _ c (h.lst c),Paired.mapP hp λb r z=>h.row z k]
end
theorem a60(Cn:Con K mg w)(T2:TTxt K mg C2 aL)(F:Fun K "rows_of" "Taking.rows_of" a2g f fd)(GH:FnOk P w K mg base CX0 4 gH dH eS (a19 K C C2))(cH:eR GH C2 "holds")(GR:FnOk P w K mg base CX0 7 gR dR eT (qg K C C2 PartRow))(cR:eR GR C2 "row_of"):FnOk P w K mg base CX0 8 f fd ["self","telling"] (vv K C C2):=by
 refine F.okA ["self","telling","rows","part","row"] λaM A outer s0 H vs Q E hr h nd=>?_;let(G,M,td,t,l,N,r,s,rfl,R,hR,(fa,pa,ht,hG,hS),aI,aG,aP,aN,qf,qt):=h;let aF:=hr.mono (j:=4) (by lia);exists _,fc (gg (ld (j5 (gn (vp rfl) rfl Cn.all Ei (jq (nr ["fact","self"] [0] (iq (fi K (qv 1) dl)) (λ_ _ _ _=>m9) (λ_ _ _ _=>(gi (qv 1) T2.cl cH.meth GH aF cH.bind .nil gt (fg (qv 0) fb)))) fb)))) (ff (fx gu)) gd)
  (fc (fz 2 nd (ie fb))
  (fc (im A1 rfl (iq (fi K (qv 1) dl)) (ip 3 nd) (fc (fz 4 nd (gi (qv 0) T2.cl cR.meth GR hr cR.bind .nil gt (fg (qv 3) fb)))
  (fc (gg (fo lu (qv 4) gu (fm _)) (ff (fx gu)) gd)
  (ff (ia (jv (K:=K) rfl A8 AO AQ ji (qv 2) (fg (qv 4) fb)))))))
  (ff (fx (qv 2)))))
 nofun
 let(aE,ag,ap):=hG;let aa:=A3 ap;let ar:∀{m},Kp (XT M td) H m->SqT K m t [.ref fa,.ref pa]:=λ{m} k=>by
  let(p,pd,da,dx,fs,dv,h1,_):=R.ex;rcases ht with (h|⟨o,h⟩)|h
  . exact .inl (.inl (k _ _ h (λz=>z.elim (jb h h1 (λz=>nomatch z)) (jb h R.tk (λz=>nomatch z)))))
  . exact .inl (.inr #[o,k _ _ h (λz=>z.elim (jb h h1 (λz=>nomatch z)) (jb h R.tk (λz=>nomatch z)))])
  exact .inr h
 exists _,fR,t,_,0,.ref fa,fR,fR,ht,fR,fa,fR,#[_,SqL.of ag];refine ab3 (aE.map V.ref) (λD i ys m=>Kp (XT M td) H m/\TkAt K C C2 G m M td l N [] (ng (r.take i)) eW/\ys=((r.take i).map (mt l)).map V.bl) kj (λD i ys m pv=>SqL.of (pv.1 _ _ ag (R.lst ag))) (by rw[Ad];lia) (λD X=>#[Kp.sm (fe X _),R.same (fe X _),fR]) (λD i ys m x X pv hd hl hx=>?_) ?_ (λD1 ys H1 aO pv av aR=>?_)
 . let(k2,g,Y):=pv;let(b,L,rfl):=lk hx;let J:i<r.length:=by rw[<- aa];exact(Ao.mp L).1
   let hy:r[i]?=eV r[i]:=Ah J;let B:=Paired.at2 ap L hy;let(k,u,v,ao,hk):=aI _ (AH J);let et:r.take (i+1)=r.take i++[r[i]]:=by rw[AL,hy];rfl
   rw[ao] at B et;let(p,pd,da,dx,fs,dv,h1,h2,_):=g.ex;refine#[_,fR,M,dx,fs,fR,h1,h2.meth "holds" (by decide),_,fR,G,M,td,b,l,N,[],_,eW,k,u,v,fR,g,hR,R.row B k2,λW k3 y=>?_];let I:=k3 _ _ hd (g.lst hd);let ac:G D=eW:=R.sm.free X;exists I,λb o L n=>by rw[fh (gc L X)];exact k3 _ _ (k2 _ _ L n) n,?_
   . let:=y.lput ac I (ys++[.bl (if k="is" then alB l u v else !alB l u v)]);rw[et];let e:ng (r.take i++[[k,u,v]])=if k="is" then ng (r.take i) else ng (r.take i)++[(u,v)]:=by
      unfold ng;rw[Dl];rw[BN];by_cases c:k="is";rw[fE c,fE (show[k,u,v].getD 0 ""="is" from c)];simp;rw[fD c,fD (show ¬ [k,u,v].getD 0 ""="is" from c)];rfl
     rw[e];exact this
   rw[et,Y,Ax,Ax];rfl
 . rintro σ m Q1 Q2 hq ⟨v1,e1,a1,a2,a3,e2,e3,e4,v2,e5,g1,g2,g3,g4,g5,g6,g7,g8,g9,aJ,ax,ay,e6,e7,e8,e9,hQ⟩;exact#[v1,e1,a1,a2,a3,e2,e3,e4,v2,e5,g1,g2,g3,g4,g5,g6,g7,g8,g9,aJ,ax,ay,e6,e7,e8,e9,λH' k t=>hq _ _ (hQ H' k t)]
 let(k1,U,Y):=pv;rw[Ad,aa,AW] at U Y;exists D1,_,fR,SqL.of (by rw[av,Y]);let an:((r.map (mt l)).all id)=r.all (mt l):=by rw[E2];rfl
 rw[an];cases ha:r.all (mt l) with
 |false=>exact#[_,fR,qf ha H1 _ k1 U]
 |true =>
 let(aw,aA,az):=qt ha;exists _,rfl;refine#[fM,λD X=>?_];let s2:=fe X (.lst []);let ac:G D=eW:=U.sm.free X;let(au,ah,ae):=hS;let ab:=A3 ae;let(am,aK):=R.rows ah ae k1;let aD:=R.lst ah;let kD:∀{W:Hp} {ys:eZ V},Kp (XT M td) H W->Kp (XT M td) H (upd W D (.lst ys)):=λ{W ys} k b o L n=>by
  rw[fh (λz=>by rw[z] at L n;let:=k1 _ _ L n;rw[X] at this;cases this)];exact k b o L n
 exists _,fR,t,_,1,.ref pa,fR,fR,ar (Kp.tr k1 (Kp.sm s2)),fR,pa,fR,#[_,SqL.of (s2 _ _ am)];refine jj (xs:=au.map V.ref) (λi σ m=>Ex5 λ(d:eZ (eZ fC)) (qs:fH) (xs:eZ V) (z1 z2:fA V)=>And8 (σ=[rQ M,rQ t,rQ D,z1,z2]) (Kp (XT M td) H m) (TkAt K C C2 G m M td l N d.flatten (ng r++qs) eW) (TkN l N d.flatten) (m D=eV (.lst xs)) (xs.length=i) (d.length=i) (Fol.rowsF (mmOf l N) [] s=accR d qs (Fol.rowsF (mmOf l N) d.flatten (s.drop i))))
  #[[],[],[],eW,eW,fR,Kp.tr k1 (Kp.sm s2),by rw[A2];exact U.same s2,#[Bh,λj hj=>by cases hj],ad,fR,fR,by rw[DQ];exact(a8z _).symm] (λi σ m _ pv=>by let(_,_,_,_,_,_,k2,_):=pv;exact SqL.of (k2 _ _ ah aD)) ?_ ?_
 . rintro i v σ m hv ⟨d,qs,xs,z1,z2,rfl,k2,g,al,T,aq,aj,O⟩
   nofun
   let(b,L,rfl):=lk hv;let J:i<s.length:=by rw[<- ab];exact(Ao.mp L).1
   let hy:s[i]?=eV s[i]:=Ah J;let B:=R.row (Paired.at2 ae L hy) k2;let aC:s.drop i=s[i]::s.drop (i+1):=DF J;let aB:s.getD i []=s[i]:=by rw[A7,hy];rfl
   let af:Fol.rowsF (mmOf l N) d.flatten (s.drop i)=match Fol.rowF (mmOf l N) d.flatten s[i] with
    |.fail=>.fail
    |.amid j=>.amid 0 j
    |.ok Z q=>match Fol.rowsF (mmOf l N) (d.flatten++Z) (s.drop (i+1)) with
     |.ok d q2=>.ok (Z::d) (q++q2)
     |.amid i j=>.amid (i+1) j
     |.fail=>.fail:=by rw[aC];rfl
   let(p,pd,da,dx,fs,dv,h1,h2,_):=g.ex;refine#[_,fR,M,dx,fs,fR,h1,h2.meth "row_of" (by decide),_,fR,G,M,td,b,l,N,_,_,eW,_,fR,g,hR,al,B,aG _ (AH J),λZ q1 he Dr ys W k3 y aH aQ=>?_,λj he W tk' ak k3 y=>?_,λhe W tk' ak k3 y=>?_]
   . exists _,fR,fR,_,rfl;let I:=k3 _ _ T (g.lst T);exists _,fR,.inl #[fR,_,SqL.of I],_,fR,D,_,_,fR,fR,I,AI (show xs.length<=15 by lia) (by decide);let ai:(d++[Z]).flatten=d.flatten++Z:=by rw[BO];simp
     refine#[d++[Z],qs++q1,_,_,_,fR,kD (Kp.tr k2 k3),?_,by rw[ai];exact aH,ad,by rw[Aj,Av,aq],by rw[Aj,Av,aj],?_];rw[ai,<- A4];exact y.lput ac I _
     rw[O,af,he,ai];show accR d qs (match Fol.rowsF (mmOf l N) (d.flatten++Z) (s.drop (i+1)) with|.ok d q2=>.ok (Z::d) (q1++q2)|.amid i j=>.amid (i+1) j|.fail=>.fail)=_;cases Fol.rowsF (mmOf l N) (d.flatten++Z) (s.drop (i+1)) with|ok a b=>show Fol.RRes.ok _ _=.ok _ _;rw[A4,A4];rfl|amid a b=>show Fol.RRes.amid _ _=.amid _ _;rw[Aj,Av];congr 1;lia|fail=>rfl
   . refine#[_,fR,fR,_,fR,aA i j ?_ W tk' ak (Kp.tr k2 k3) (by rw[aB];exact y)];rw[O,af,he];show Fol.RRes.amid (d.length+0) j=_;rw[aj];rfl
   refine#[_,fR,fR,_,fR,az ?_ W tk' ak (Kp.tr k2 k3) y];rw[O,af,he];rfl
 rintro σ m ⟨d,qs,xs,z1,z2,rfl,k2,g,al,T,aq,aj,O⟩;refine#[_,fR,aw d qs ?_ D xs m k2 g T];rw[O,Ad,ab,HQ];show Fol.RRes.ok (d++[]) (qs++[])=_;rw[A2,A2]
theorem a0d:∀{b:eZ IS}{us:eZ IT},Vals (b.map V.ref) us->∀u∈us,∃t∈b,u=.ref t
 |[],_,.nil=>λu a=>by cases a
 |t::b,u::us,.cons r h=>λc a=>by
  rcases Ak.mp a with rfl|a;cases r;exact#[t,Af ..,fR];let(t',h1,h2):=a0d h c a;exact#[t',Ag _ h1,h2]
theorem a9c(k:X.K=K)(d:X.A.units+1<cLine):OpR X (JD .In) (λx y H Q=>∃(p:IS) (a:eZ IS),x=.non/\y=.ref p/\SqL K H p (a.map V.ref)/\(∀t∈a,∃xs,SqT K H t xs)/\Q (.bl eY) H):=by
 subst k;intro c s σ H x y v u Q I f j h;let(p,a,rfl,rfl,l,e,q):=h;cases j;cases f;let(its,r,pl,hz):=I.list l;refine HY (λ_=>eY) pl.isList (λw i=>?_) #[.bl _,H,I,fR,?_];let(t,h1,rfl):=a0d r w (by simpa using i);let(xs,g):=e t h1;let(its',r',b,_):=I.tuple g;exact SeqAt.EqAt.tuple_none b (by first|exact d|(show X.A.units+1<cLine;exact d)|(show X.A.units<cLine;lia)|lia);rw[show its.toArray.any (λ_=>eY)=eY by simp];exact q
theorem a5f(a:X.A.units+1<cLine)(hi:QE X i ty)(b:QE X o td)(hm:autoParam (JE .NotIn o=eY) a8_):QE X (.Compare i [.NotIn] [o] pos) (ui ty td):=#[a7n (yc a hi.run b.run) hm]
theorem tkf5(p pd td am:IS):TkF (putF "amid" (.ref am) (putF "doubt" .non (putF "taken" (.ref td) (putF "parts" (.ref pd) (putF "knowledge" (.ref p) []))))) p pd td am .non:=by
 let(n1,n2,l,j,f,g,k,h,b,a):=a49;refine#[?_,?_,?_,?_,?_,?_,λm hm=>?_];rw[fy,fD k,fy,fD g,fy,fD f,fy,fD j,fy,fE rfl];rw[fy,fD l,fy,fD n2,fy,fD n1,fy,fE rfl];rw[fy,fD b,fy,fD h,fy,fE rfl];rw[fy,fD a,fy,fE rfl];rw[fy,fE rfl]
 . let h1:=i9 "knowledge" (.ref p) [];let h2:=i9 "parts" (.ref pd) (putF "knowledge" (.ref p) []);let h3:=i9 "taken" (.ref td) (putF "parts" (.ref pd) (putF "knowledge" (.ref p) []));let n:=i9 "doubt" .non (putF "taken" (.ref td) (putF "parts" (.ref pd) (putF "knowledge" (.ref p) [])));let o:=i9 "amid" (.ref am) (putF "doubt" .non (putF "taken" (.ref td) (putF "parts" (.ref pd) (putF "knowledge" (.ref p) []))));simp only[DE] at h1
   lia
 let(c,d,i,m4,e):=a51 m hm;rw[fy,fD e,fy,fD m4,fy,fD i,fy,fD c,fy,fD d];rfl
inductive spTInitS(K:Aa)(C C2:IS)(vs:eZ V)(H:Hp)(Q:VK):Prop
 |mk (q dx p pd:IS)(H0:Hp)(F P:fG)(rs:eZ IS)(h0:vs=[.ref q,.ref p,.ref pd])(h1:H q=eV (.ins C2 dx []))(h2:Same H0 H)(h3:H0 q=eW)(h4:KwAt K C H0 p F P)(h5:H0 pd=eV (.dK (kvE 0 (rs.map V.ref))))(h6:IZ (λb r=>RowAt K H0 b r) rs P)(h7:∀td H',Kp (· = q) H H'->TkAt K C C2 H0 H' q td F P [] [] eW->Q .non H'):spTInitS K C C2 vs H Q
def xb(K:Aa)(C C2:IS):Sp:=λvs H Q _=>spTInitS K C C2 vs H Q
theorem a86(Cn:Con K mg w)(T:Txt K mg C fI)(a:TTxt K mg C2 S)(F:Fun K "leaves_some" "Taking.leaves_some" a33 f fd):FnOk P w K mg base CX0 1 f fd ["self"] (vy K C C2):=by
 refine F.okA ["self"] λU A outer s0 H vs Q E hr h _=>?_;let(G,m,td,u,n,tk,dq,am,rfl,g,b,q):=h;let c:=j4 hr;exists _,(ff (fx (gn (vj rfl) rfl Cn.any Ef (jq (nr ["number","self"] [0] (iq (gh (K:=K) rfl (gh (K:=K) rfl (qv 0)))) (λ_ _ _ _=>m9) (λ_ _ _ _=>(r6 (a1p c (qv 0) (gh (K:=K) rfl (qv 1))) (ni (a5f c (qv 0) (gh (K:=K) rfl (qv 1))))))) fb))));let(p,pd,da,r,fs,dv,h1,h2,hG):=g.ex;let(rs,h4,h5):=hG.pd;let kw:KwAt K C H p u n:=hG.kw.same g.sm;let(pl,hd,un,fu,D,L,Fl,hK,hN,aa,_):=kw.ex;let((B,o,g1,g2,J),N):=id hN;exists _,fR,m,C2,r,fs,.ref p,fR,h1,a.cl,a.nK,h2.kn,p,C,B,o,.ref D,fR,g1,T.cl,T.nE,J,D,fR,#[_,SqL.of N];refine vg ((neOf u n).map natV) (neOf u n) (λj => !decide (j∈tk)) kj (SqL.of N) (by rw[Ad];exact AA (u4 b) (by decide)) (by rw[Ad]) (λi x y R M H2 e Q' X=>?_) λY H1 W e1 s=>?_
 . obtain rfl:x=.int ((y:fC):fB):=by
    rw[Ap,M] at R;exact(Am R).symm
   let I:=Ar M;let v:=g.same e;let t:y<rs.length:=by rw[A3 h5];exact o0 y I
   let O:=DGet.k (k:=Sum.inl ((y:fC):fB)) (e _ _ (g.sm _ _ h4));rw[wg,Ap,Ah t] at O;let Z:=DGet.k (k:=Sum.inl ((y:fC):fB)) v.tk;exists _,fR,_,fR,m,C2,r,fs,.ref pd,fR,e _ _ h1,a.cl,a.nP,h2.parts,pd,_,fR,O,_,rfl;exists _,fR,_,fR,m,C2,r,fs,.ref td,fR,e _ _ h1,a.cl,a.nT,h2.taken,td,_,fR,Z;rw[ro];exact X H2 (Same.refl _)
 exists Y,_,fR,SqL.of s;refine q _ H1 e1 ?_;rw[Dj,AV];constructor;rintro⟨j,l,hz⟩;refine#[j,l,λz=>?_];let d:(!decide (j∈tk))=eX:=hz;rw[fU z] at d;cases d;rintro⟨j,l,hz⟩;exists j,l;show(!decide (j∈tk))=eX;rw[fT hz];rfl
theorem a8x(i:TTxt K mg C2 S)(F:Fun K "__init__" "Taking.__init__" a70 f fd):FnOk P w K mg base CX0 1 f fd ["self","knowledge","parts"] (xb K C C2):=by
 refine F.okA ["self","knowledge","parts"] λT A outer s0 H vs Q E Y h _=>?_;let(a,d,p,pd,J,Z,Ps,rs,rfl,U,R,B,W,x,G,q):=h;exists _,fc (kq (K:=K) rfl (qv 0) (qv 1))
  (fc (kq (K:=K) rfl (qv 0) (qv 2))
  (fc (kq (K:=K) rfl (qv 0) lx)
  (fc (kq (K:=K) rfl (qv 0) gu)
  (ff (kq (K:=K) rfl (qv 0) lx)))))
 nofun
 let c:∀{n:fC},n<=10->n<1000:=λh=>by lia
 let N:(putF "knowledge" (.ref p) []).length<=1:=i9 _ _ _;let L:(putF "parts" (.ref pd) (putF "knowledge" (.ref p) [])).length<=2:=by let:=i9 "parts" (.ref pd) (putF "knowledge" (.ref p) []);lia
 exists _,fR,_,fR,a,C2,d,_,fR,U,i.cl,i.nK,c (AF _);exists _,fR,_,fR,a,C2,d,_,fR,ad,i.cl,i.nP,c (by lia);let k1:Kp (· = a) H (upd (upd H a (.ins C2 d (putF "knowledge" (.ref p) []))) a (.ins C2 d (putF "parts" (.ref pd) (putF "knowledge" (.ref p) [])))):=λb o e n=>by rw[fh n,fh n];exact e
 let m:(upd (upd H a (.ins C2 d (putF "knowledge" (.ref p) []))) a (.ins C2 d (putF "parts" (.ref pd) (putF "knowledge" (.ref p) [])))) a=eV (.ins C2 d (putF "parts" (.ref pd) (putF "knowledge" (.ref p) []))):=ad;generalize upd (upd H a (.ins C2 d (putF "knowledge" (.ref p) []))) a (.ins C2 d (putF "parts" (.ref pd) (putF "knowledge" (.ref p) [])))=X at k1 m |-;refine λtd l=>?_;let O:=fe l (.dK []);let r:a≠td:=gc m l;let M:(putF "taken" (.ref td) (putF "parts" (.ref pd) (putF "knowledge" (.ref p) []))).length<=3:=by let:=i9 "taken" (.ref td) (putF "parts" (.ref pd) (putF "knowledge" (.ref p) []));lia
 let s:(putF "doubt" .non (putF "taken" (.ref td) (putF "parts" (.ref pd) (putF "knowledge" (.ref p) [])))).length<=4:=by let:=i9 "doubt" .non (putF "taken" (.ref td) (putF "parts" (.ref pd) (putF "knowledge" (.ref p) [])));lia
 exists _,fR,a,C2,d,_,fR,O _ _ m,i.cl,i.nT,c (by lia);exists _,fR,a,C2,d,_,fR,ad,i.cl,i.nD,c (by lia);generalize hfs:putF "doubt" .non (putF "taken" (.ref td) (putF "parts" (.ref pd) (putF "knowledge" (.ref p) [])))=k at s |-;generalize hH2:upd (upd (upd X td (.dK [])) a (.ins C2 d (putF "taken" (.ref td) (putF "parts" (.ref pd) (putF "knowledge" (.ref p) []))))) a (.ins C2 d k)=v;let k2:Kp (· = a) H v:=λb o e n=>by rw[<- hH2,fh n,fh n];exact O _ _ (k1 b o e n)
 let t:v a=eV (.ins C2 d k):=by rw[<- hH2];exact ad
 let u:v td=eV (.dK []):=by rw[<- hH2,fh (AE r),fh (AE r)];exact ad
 refine λam g=>?_;let y:=fe g (.dK []);exists _,fR,a,C2,d,_,fR,y _ _ t,i.cl,i.nA,c (by lia);let k3:Kp (· = a) H (upd (upd v am (.dK [])) a (.ins C2 d (putF "amid" (.ref am) k))):=λb o e n=>by rw[fh n];exact y _ _ (k2 b o e n)
 let D:am≠a:=λz=>by rw[z,t] at g;cases g
 let I:am≠td:=λz=>by rw[z,u] at g;cases g
 let j:∀b o,J b=eV o->¬ XT a td b:=λb o e z=>by
  let hn:b≠a:=λz=>by rw[z,B] at e;cases e
  rcases z with z|z;exact hn z;let:=k1 b o (R _ _ e) hn;rw[z,l] at this;cases this
 refine q td _ k3 #[#[p,pd,am,d,_,.non,ad,?_,W,#[rs,x,G],fR,?_,I],?_,λb o e=>#[k3 b o (R _ _ e) (λz=>j b o e (.inl z)),j b o e]];rw[<- hfs];exact tkf5 p pd td am;rw[fh D];exact ad;rw[fh (AE r)];exact y _ _ u
end K37
namespace L2
theorem aaj(I:Inv X d σ H s)(e:H a=eV (.dK kvs))(n:H b=eV (.dK more))(g:a≠b)(hl:kvs.length+more.length<=IR)(h:∀s',Inv X d σ (upd H a (.dK (jd kvs more))) s'->Q .none s'):IU (IV X.prog X.w) A (call (.builtin "dict.update") [.ref a,.ref b]) Q E s:=by
 let(z,hd,vs,rel,dd):=o9 I.hok e;let(p,l,i,c,k):=o9 I.hok n;refine DL Fu dd.typeIs PySem.F.entry_dict_update (PySem.F.args_dict_update_2 _ _) (meets_dict_update (i4 X.prog X.w) a b g l) #[vs,i,dd,k,by rw[<- rel.length,<- c.length];exact hl,λh' f _ m=>?_];refine h _ ?_;let o:∃q,h'.get? a=eV q:=let ⟨q,_,_,hq,_⟩:=f;#[q,hq];let j:(jd kvs more).length<=IR:=by let:=oo more kvs;lia
 exact nj I (by rw[e];exact True.intro) m o (ph j hd (c.merge rel) f)
def abk(td ty:TE):TE:=fun σ H Q=>td σ H λx H1=>∃a,x=.ref a/\IsD H1 a/\ty σ H1 λy H2=>∃b kvs more,y=.ref b/\H2 a=eV (.dK kvs)/\H2 b=eV (.dK more)/\a≠b/\kvs.length+more.length<=IR/\Q .non (upd H2 a (.dK (jd kvs more)))
theorem add(n:PE X o td)(z:PE X e ty)(m:M1 X o "update" g e f):PE X (.Call (.Attribute o "update" g) [e] [] f) (abk td ty):=by
 intro c s σ H Q I h;refine Df m.base m.few m.line Cj Fu PySem.F.type_dict_update (thn (n c s σ H _ I h) λu s1 E=>?_);let(x,A,j,l,a,ex,d,p):=E;subst ex;obtain rfl:u=Value.ref a:=l;let(D,q,_):=u5 j d;exists D,q;rw[m.trees];refine BJ rfl (BV (B8 (thn (z c s1 σ A _ j p) λC M #[y,L,k,r,b,kvs,more,w,B,v,i,hl,G]=>Cg ?_)));subst w;obtain rfl:C=Value.ref b:=r;exact aaj k B v i hl λJ t=>#[.non,_,t,fR,G]
theorem acs(d:QE X o td)(c:QE X e ty)(m:autoParam (M1 X o "update" b e a) a9_):QE X (.Call (.Attribute o "update" b) [e] [] a) (abk td ty):=#[add d.run c.run m]
theorem a9x(j:QE X k tk)(hv:QE X v i)(g:QE X h tk')(e:QE X m a)(d:QE X k2 f)(b:QE X l c):QE X (.Dict [eV k,eV h,eV k2] [v,m,l] pos) (zu [(tk,i),(tk',a),(f,c)]):=#[xx (nt j.run hv.run (nt g.run e.run (nt d.run b.run xi))) rfl rfl (by simp) (by simp)]
end L2
namespace K37
open L2 Mir Kn
abbrev za:JA:=top 22
abbrev a0b:JA:=top 23
abbrev a0g:JA:=top 24
def ival(o:fA V):fB:=match o with|some (.int n)=>n|_=>0
def Dom(zs:fJ)(x:fS):Prop:=x="nil" \/ x∈zs
def EntI(kv:eZ (Key×V)):Prop:=∀q∈kv,∃(x:fS) (n:fB),q=(Sum.inr x,V.int n)
theorem EntI.put(h:EntI kv)(x:fS)(n:fB):EntI (putK kv (Sum.inr x) (.int n)):=λq a=>by
 unfold putK at a;split at a;let(p,hp,rfl):=As.mp a;let(y,k,rfl):=h p hp;by_cases c:(Sum.inr y:Key)=Sum.inr x;exact#[y,n,by rw[fE c]];exact#[y,k,by rw[fD c]]
 rcases Ab.mp a with z|z;exact h q z;exact#[x,n,Ae.mp z]
structure NumOk(h:fS->fS)(zs:fJ)(kv:eZ (Key×V)):Prop where
 at_:∀x,Dom zs x->valV kv (Sum.inr x)=eV (.int (ival (valV kv (Sum.inr x))))
 no:∀k,(valV kv k).isSome=eX->∃x,k=Sum.inr x/\Dom zs x
 nil:valV kv (Sum.inr "nil")=eV (.int 0)
 inj:∀x y,Dom zs x->Dom zs y->(valV kv (Sum.inr x)=valV kv (Sum.inr y)↔h x=h y)
 lt:∀x,Dom zs x->0<=ival (valV kv (Sum.inr x))/\ival (valV kv (Sum.inr x))<=zs.length
 len:kv.length<=zs.length+1
 ents:EntI kv
structure NumI(h:fS->fS)(zs:fJ)(n:fC)(kv kn:eZ (Key×V)):Prop where
 s:∀x,Dom zs x->valV kv (Sum.inr x)=valV kn (Sum.inr (h x))/\(valV kn (Sum.inr (h x))).isSome=eX
 z:valV kn (Sum.inr (h "nil"))=eV (.int 0)
 n1:∀k v,valV kn k=eV v->∃m:fC,v=.int (m:fB)/\m<kn.length
 n2:∀k k' v,valV kn k=eV v->valV kn k'=eV v->k=k'
 d:∀k,(valV kv k).isSome=eX->∃x,k=Sum.inr x/\Dom zs x
 ln:kn.length<=n+1
 lv:kv.length<=n+1
 en:EntI kv
theorem lq{k:Key}(h:valV kn k=eW):putK kn k v=kn++[(k,v)]:=by
 unfold putK;rw[ko,h];rfl
theorem NumI.ok(I:NumI h zs zs.length kv kn):NumOk h zs kv:=by
 let at0:∀x,Dom zs x->∃m:fC,valV kv (Sum.inr x)=eV (.int (m:fB))/\m<=zs.length:=λx a=>by
  let(h1,h2):=I.s x a;let(v,hv):=Bd.mp h2;let(m,rfl,hm):=I.n1 _ _ hv;exact#[m,h1.trans hv,by let:=I.ln;lia]
 refine#[λx a=>?_,I.d,?_,λx y a b=>?_,λx a=>?_,I.lv,I.en];let(m,hm,_):=at0 x a;rw[hm];rfl;rw[(I.s "nil" (.inl rfl)).1];exact I.z;let(h1,h2):=I.s x a;let(h3,c):=I.s y b;rw[h1,h3];constructor;intro e;let(v,hv):=Bd.mp h2;exact BR (I.n2 _ _ v hv (e ▸ hv));intro e;rw[e]
 let(m,hm,hl):=at0 x a;rw[hm];exact#[Int.natCast_nonneg m,Int.ofNat_le.mpr hl]
theorem NumI.step(I:NumI h zs n kv kn)(x:fS)(v:V)(hv:valV kn (Sum.inr (h x))=eV v):NumI h (zs++[x]) (n+1) (putK kv (Sum.inr x) v) kn:=by
 refine#[λy b=>?_,I.z,I.n1,I.n2,λk a=>?_,by let:=I.ln;lia,by let:=jp kv (Sum.inr x) v;let:=I.lv;lia,by let(m,rfl,_):=I.n1 _ _ hv;exact I.en.put x m];rw[jx];by_cases e:y=x;subst e;rw[fE rfl,hv];exact#[fR,fR];rw[fD (λz=>e (BR z))];refine I.s y ?_;rcases b with z|z;exact .inl z;rcases Ab.mp z with w|w;exact .inr w;exact fF (Ae.mp w) e
 rw[jx] at a;by_cases e:k=Sum.inr x;exact#[x,e,.inr (Ab.mpr (.inr (Ae.mpr rfl)))];rw[fD e] at a;let(y,h1,h2):=I.d k a;exact#[y,h1,h2.imp id λz=>Ab.mpr (.inl z)]
theorem NumI.more(I:NumI h zs n kv kn)(x:fS)(hv:valV kn (Sum.inr (h x))=eW):NumI h zs (n+1) kv (putK kn (Sum.inr (h x)) (.int (kn.length:fB))):=by
 let hl:(putK kn (Sum.inr (h x)) (.int (kn.length:fB))).length=kn.length+1:=by rw[lq hv,Aj];rfl
 let old:∀{k:Key} {v:V},valV kn k=eV v->valV (putK kn (Sum.inr (h x)) (.int (kn.length:fB))) k=eV v:=λ{k v} a=>by
  rw[jx,fD (λz=>by rw[z,hv] at a;cases a)];exact a
 refine#[λy j=>?_,old I.z,λk v a=>?_,λk i v a b=>?_,I.d,by let:=I.ln;omega,by let:=I.lv;omega,I.en];let(h1,h2):=I.s y j;let(v,g):=Bd.mp h2;rw[old g,h1];exact#[g,fR];rw[jx] at a;by_cases e:k=Sum.inr (h x);rw[fE e] at a;cases a;exact#[kn.length,fR,by omega];rw[fD e] at a;let(m,h1,h2):=I.n1 k v a;exact#[m,h1,by omega]
 rw[jx] at a b;let no:∀c,valV kn c≠eV (.int (kn.length:fB)):=λc z=>by
  let(m,h1,h2):=I.n1 _ _ z;let:=V.int.inj h1;omega
 by_cases e:k=Sum.inr (h x);rw[fE e] at a;cases a;by_cases f:i=Sum.inr (h x);rw[e,f];rw[fD f] at b;exact fF b (no i)
 rw[fD e] at a;by_cases f:i=Sum.inr (h x);rw[fE f] at b;cases b;exact fF a (no k);rw[fD f] at b;exact I.n2 k i v a b
def numT(h:fS->fS)(p:eZ (Key×V)×eZ (Key×V))(x:fS):eZ (Key×V)×eZ (Key×V):=match valV p.2 (Sum.inr (h x)) with
 |some v=>(putK p.1 (Sum.inr x) v,p.2)
 |none=>(putK p.1 (Sum.inr x) (.int (p.2.length:fB)),putK p.2 (Sum.inr (h x)) (.int (p.2.length:fB)))
def numS(h:fS->fS)(l:fJ):eZ (Key×V)×eZ (Key×V):=l.foldl (numT h) ([(Sum.inr "nil",.int 0)],[(Sum.inr (h "nil"),.int 0)])
theorem a8l(e:numS h l=(kv,kn))(hv:valV kn (Sum.inr (h x))=eV v):numS h (l++[x])=(putK kv (Sum.inr x) v,kn):=by
 unfold numS at e |-;rw[Fg,e];show numT h (kv,kn) x=_;unfold numT;rw[hv]
theorem a6s(e:numS h l=(kv,kn))(hv:valV kn (Sum.inr (h x))=eW):numS h (l++[x])=(putK kv (Sum.inr x) (.int (kn.length:fB)),putK kn (Sum.inr (h x)) (.int (kn.length:fB))):=by
 unfold numS at e |-;rw[Fg,e];show numT h (kv,kn) x=_;unfold numT;rw[hv]
inductive spNumberedS(C:IS)(vs:eZ V)(H:Hp)(Q:VK):Prop
 |mk (p nl pl hd un fu:IS)(hm:fH)(uk:eZ (eZ Key×V))(zs:fJ)(h:fS->fS)(h0:vs=[.ref p,.ref nl])(h1:KnAt C H p pl hd un fu hm uk)(h2:HeadsOk hm h)(h3:H nl=eV (.lst (zs.map V.str)))(h4:zs.length<=200)(h5:∀d kv H',H d=eW->Same H H'->H' d=eV (.dK kv)->NumOk h zs kv->kv=(numS h zs).1->Q (.ref d) H'):spNumberedS C vs H Q
def wp(C:IS):Sp:=λvs H Q _=>spNumberedS C vs H Q
theorem a26(Cn:Con K mg w)(T:Txt K mg C fI)(F:Fun K "numbered" "numbered" za f fd)(GH:FnOk P w K mg base CX0 1 gH dH eS (ue C))(U:eR GH C "head"):FnOk P w K mg base CX0 2 f fd ["knowledge","names"] (wp C):=by
 refine F.okA ["knowledge","names","numbers","values","name"] λab A outer s0 H vs Q E hr h nd=>?_;let(p,nl,pl,hd,un,fu,hm,uk,zs,h,rfl,hK,hok,hN,hz,q):=h;let Y:=j4 hr;exists _,fc (fz 2 nd (pb (gi (qv 0) T.cl U.meth GH hr U.bind .nil gt (gw fb)) dl))
  (fc (fz 3 nd (pb gj dl))
  (fc (im A1 rfl (iq (qv 1)) (ip 4 nd) (ff (jg Y (qv 3) (qv 4) (xz (qv 2) (gi (qv 0) T.cl U.meth GH hr U.bind .nil gt (fg (qv 4) fb)) (gn om rfl Cn.len AJ (fg (qv 2) fb))))))
  (ff (fx (qv 3)))))
 nofun
 let((dx,fs,h1,h2),h3,h4):=id hK;intro b r;let s1:=fe r (.dK []);exists _,fR,p,dx,fs,fR,s1 _ _ h1,h2.meth "head" (by decide),p,pl,hd,un,fu,hm,uk,"nil",fR,hK.same s1;exists ad,[(Sum.inr (hdS hm "nil"),.int 0)],fR,fQ;let s2:Same H (upd (upd H b (.dK [])) b (.dK (jd [] [(Sum.inr (hdS hm "nil"),.int 0)]))):=gz r s1 _;let o:(upd (upd H b (.dK [])) b (.dK (jd [] [(Sum.inr (hdS hm "nil"),.int 0)]))) b=eV (.dK [(Sum.inr (h "nil"),.int 0)]):=by
  rw[ad,hok.hd "nil"];rfl
 generalize upd (upd H b (.dK [])) b (.dK (jd [] [(Sum.inr (hdS hm "nil"),.int 0)]))=R at s2 o |-;intro dv y;let g:b≠dv:=gc o y;let a:H dv=eW:=s2.free y;exists ad,[(Sum.inr "nil",.int 0)],fR,fQ;let W:Same H (upd (upd R dv (.dK [])) dv (.dK (jd [] [(Sum.inr "nil",.int 0)]))):=gz a (gz a s2 _) _;let G:(upd (upd R dv (.dK [])) dv (.dK (jd [] [(Sum.inr "nil",.int 0)]))) dv=eV (.dK [(Sum.inr "nil",.int 0)]):=by rw[ad];rfl
 let M:(upd (upd R dv (.dK [])) dv (.dK (jd [] [(Sum.inr "nil",.int 0)]))) b=eV (.dK [(Sum.inr (h "nil"),.int 0)]):=by rw[fh g,fh g];exact o
 generalize upd (upd R dv (.dK [])) dv (.dK (jd [] [(Sum.inr "nil",.int 0)]))=H3 at W G M |-;let I0:NumI h [] 0 [(Sum.inr "nil",.int 0)] [(Sum.inr (h "nil"),.int 0)]:=by
  let one:∀{k j:Key} {v:V},valV [(k,V.int 0)] j=eV v->j=k/\v=.int 0:=λ{k j v} e=>by
   by_cases c:k=j;rw[il (p:=(k,V.int 0)) c] at e;exact#[c.symm,(Am e).symm];rw[iw (p:=(k,V.int 0)) c] at e;cases e
  let self:∀k:Key,valV [(k,V.int 0)] k=eV (.int 0):=λk=>il (p:=(k,V.int 0)) rfl;refine#[λx N=>?_,self _,λk v e=>?_,λk k' v e e'=>(one e).1.trans (one e').1.symm,λk hk=>?_,An _,An _,λq hq=>#["nil",0,Ae.mp hq]];rcases N with rfl|z;rw[self,self];exact#[fR,fR];cases z;exact#[0,(one e).2,Nat.zero_lt_one]
  let(v,hv):=Bd.mp hk;exact#["nil",(one hv).1,.inl rfl]
 exists _,fR,nl,fR,#[_,SqL.of (W _ _ hN)];refine jj (xs:=zs.map V.str) (λi σ n=>Same H n/\Ex3 λkv kn z4=>And5 (n b=eV (.dK kn)) (n dv=eV (.dK kv)) (NumI h (zs.take i) i kv kn) (numS h (zs.take i)=(kv,kn)) (σ=[rQ p,rQ nl,rQ b,rQ dv,z4]))
  #[W,_,_,eW,M,G,I0,fR,fR] (λi σ n _ pv=>SqL.of (pv.1 _ _ hN)) ?_ ?_
 . rintro i x σ n N ⟨t,kv,kn,z4,l,m,I,D,rfl⟩
   nofun
   let O:i<zs.length:=by let:=(Ao.mp N).1;rw[Ad] at this;exact this
   obtain rfl:x=.str zs[i]:=by
    rw[Ap,Ah O] at N;exact(Am N).symm
   let S:zs.take (i+1)=zs.take i++[zs[i]]:=by rw[AL,Ah O];rfl
   let X:kn.length<=1000:=by let:=I.ln;lia
   let B:kv.length<=1000:=by let:=I.lv;lia
   let aa:=hK.same t;exists _,fR,b,fR,.inl #[_,.inl l],_,fR,p,dx,fs,fR,t _ _ h1,h2.meth "head" (by decide),_,fR,p,pl,hd,un,fu,hm,uk,zs[i],fR,aa;rw[hok.hd];refine#[_,fR,b,kn,fR,l,kn,Sum.inr (h zs[i]),l,fR,jf X,λv hv=>?_,λhv=>?_];refine#[_,fR,_,fR,dv,_,fR,DPut.k (k:=Sum.inr zs[i]) m (jf B),gz a t _,_,kn,_,by rw[fh g];exact l,ad,by rw[S];exact I.step zs[i] v hv,by rw[S];exact a8l D hv,fR]
   let L:H b=eW:=r;let Z:(upd n b (.dK (putK kn (Sum.inr (h zs[i])) (.int (kn.length:fB))))) dv=eV (.dK kv):=by rw[fh (AE g)];exact m
   refine#[_,fR,_,fR,dv,_,fR,DPut.k (k:=Sum.inr zs[i]) Z (jf B),gz a (gz L t _) _,_,_,_,by rw[fh g,ad],ad,?_,by rw[S];exact a6s D hv,fR];rw[S];let J:=I.more zs[i] hv;let u:=J.step zs[i] (.int (kn.length:fB)) (by rw[jx,fE rfl]);exact#[u.s,u.z,u.n1,u.n2,u.d,by let:=I.ln;rw[lq hv,Aj,Av];lia,by let:=I.lv;let:=jp kv (Sum.inr zs[i]) (.int (kn.length:fB));lia,u.en]
 rintro σ n ⟨t,kv,kn,z4,l,m,I,D,rfl⟩;rw[Ad,AW] at I D;exact#[_,fR,q dv kv n a t m I.ok (fX EI D).symm]
def hv(hp:eZ (fB×IS)):eZ (Key×V):=hp.map λp=>(Sum.inl p.1,V.ref p.2)
abbrev ig:=eZ (fB×fB×fB)
def CellsAt(K:Aa)(H:Hp)(hp:eZ (fB×IS))(cs:ig):Prop:=IZ (λp c=>p.1=c.1/\SqT K H p.2 [.int c.2.1,.int c.2.2]) hp cs
theorem CellsAt.same(h:CellsAt K H hp cs)(e:Same H H'):CellsAt K H' hp cs:=Paired.mapP h λ_ _ z=>#[z.1,e.seqT z.2]
def vI(kv:eZ (Key×V))(x:fS):fB:=ival (valV kv (Sum.inr x))
def gI(kv:eZ (Key×V))(bs:fB)(x:fS):fB:=if(valV kv (Sum.inr x)).isSome=eX then vI kv x else bs
def IntsAt(kv:eZ (Key×V)):Prop:=∀x,valV kv (Sum.inr x)=eW\/valV kv (Sum.inr x)=eV (.int (vI kv x))
theorem IntsAt.get(h:IntsAt kv)(bs:fB)(x:fS):(valV kv (Sum.inr x)).getD (.int bs)=.int (gI kv bs x):=by
 unfold gI;rcases h x with z|z;rw[z];rfl;rw[z];rfl
theorem IntsAt.at_(h:IntsAt kv)(a:(valV kv (Sum.inr x)).isSome=eX):valV kv (Sum.inr x)=eV (.int (vI kv x)):=by
 rcases h x with z|z;rw[z] at a;cases a;exact z
def ky(kv:eZ (Key×V))(bs s0 s1:fB)(r:fJ):ig :=
 if r.getD 0 ""="cell" then [(vI kv (place r),gI kv bs (r.getD 2 ""),gI kv bs (r.getD 3 ""))]
 else if r.getD 0 ""="stretch" then [(vI kv (place r),bs,s0),(s0,bs,vI kv (r.getD 2 ""))]
 else [(vI kv (place r),s0,s1),(s0,0,0),(s1,0,0)]
theorem oq:∀(more kvs:eZ (Key×V)),((kvs++more).map (·.1)).Nodup->jd kvs more=kvs++more
 |[],kvs,_=>(A2 _).symm
 |p::r,kvs,h=>by
  let hn:valV kvs p.1=eW:=by
   cases hz:valV kvs p.1 with
   |none=>rfl
   |some v =>
    let hm:=xu hz;rw[Ax,AN] at h;exact fF rfl (h.2.2 _ hm _ (As.mpr #[p,Af ..,fR]))
  show jd (putK kvs p.1 p.2) r=_;rw[lq hn,oq r (kvs++[(p.1,p.2)]) (by rw[A4];exact h),A4];rfl
inductive spCellsOfS(K:Aa)(vs:eZ V)(H:Hp)(Q:VK):Prop
 |mk (b d sl:IS)(bs s0 s1:fB)(r:fJ)(kv:eZ (Key×V))(h0:vs=[.ref b,.ref d,.ref sl,.int bs])(h1:RowAt K H b r)(h2:PartRow r)(h3:H d=eV (.dK kv))(h4:IntsAt kv)(h5:H sl=eV (.lst [.int s0,.int s1]))(h6:(valV kv (Sum.inr (place r))).isSome=eX)(h7:(r.getD 0 ""="stretch" -> (valV kv (Sum.inr (r.getD 2 ""))).isSome=eX))(h8:vI kv (place r)≠s0)(h9:vI kv (place r)≠s1)(h10:s0≠s1)(h11:∀D hp H',H D=eW->Same H H'->H' D=eV (.dK (hv hp))->CellsAt K H' hp (ky kv bs s0 s1 r)->Q (.ref D) H'):spCellsOfS K vs H Q
def ym(K:Aa):Sp:=λvs H Q _=>spCellsOfS K vs H Q
theorem a4d(F:Fun K "cells_of" "cells_of" a0b f fd):FnOk P w K mg base CX0 1 f fd ["part","values","spares","beside"] (ym K):=by
 refine F.okA ["part","values","spares","beside","place"] λae A outer s0 H vs Q E hr h nd=>?_;let(b,d,C,bs,s0,s1,r,kv,rfl,S,hp,O,U,N,aa,ac,n0,n1,n2,q):=h;let p:=j4 hr;exists _,fc (fz 4 nd (ik p (qv 1) (fi K (qv 0) dl) (λ_ _=>rfl)))
  (fc (gg (fo gk (fi K (qv 0) dl) gj (fm _)) (ff (fx (pb (qv 4) (ij (i7 (pj p (qv 1) (fi K (qv 0) dl) (qv 3)) (i7 (pj p (qv 1) (fi K (qv 0) dl) (qv 3)) fb)))))) gd)
  (fc (gg (fo gk (fi K (qv 0) dl) gj (fm _)) (ff (fx (a9u (qv 4) (ij (fg (qv 3) (ft (gr K (qv 2) dl) fb))) (gr K (qv 2) dl) (ij (fg (qv 3) (ft (ik p (qv 1) (fi K (qv 0) dl) (λ_ _=>rfl)) fb)))))) gd)
  (ff (fx (a9x (qv 4) (ij (ft (gr K (qv 2) dl) (ft (gr K (qv 2) dl) fb))) (gr K (qv 2) dl) (ij (ja (ja fb))) (gr K (qv 2) dl) (ij (ja (ja fb))))))))
 nofun
 exists _,fR,_,fR,b,_,1,_,fR,fR,S,hp.at1;exists d,_,fR,(U.at_ aa) ▸ DGet.k (k:=Sum.inr (place r)) O;refine#[_,fR,b,_,0,_,fR,fR,S,hp.at0,fR,_,fR,iteB (λc=>?_) (λc=>?_)]
 . let R:r.getD 0 ""="cell" := by simpa using c
   obtain⟨x,y,z,rfl⟩:∃x y z,r=[("cell":fS),x,y,z]:=by
    rcases hp with z|⟨x,y,rfl⟩|⟨a,rfl⟩;exact z;exact fF R (by show ¬ ("stretch":fS)="cell";decide);exact fF R (by show ¬ ("tree":fS)="cell";decide)
   intro D e;let m:=fe e (.dK []);exists _,fR,_,fR,d,fR,.inl #[_,.inl (m _ _ O)],_,fR,b,_,2,.str y,fR,fR,m.seqT S,fR,_,fR,_,DGet.k (k:=Sum.inr y) (m _ _ O);exists _,fR,d,fR,.inl #[_,.inl (m _ _ O)],_,fR,b,_,3,.str z,fR,fR,m.seqT S,fR,_,fR,_,DGet.k (k:=Sum.inr z) (m _ _ O);rw[U.get,U.get];refine#[fK,λt ht=>?_];let o:=fe ht (.tup [.int (gI kv bs y),.int (gI kv bs z)]);exists o _ _ ad,[(Sum.inl (vI kv (place [("cell":fS),x,y,z])),.ref t)],fR,fQ;refine q D [(vI kv (place [("cell":fS),x,y,z]),t)] _ e (gz e (m.trans o) _) (by rw[ad];rfl) ?_;let n:ky kv bs s0 s1 [("cell":fS),x,y,z]=[(vI kv (place [("cell":fS),x,y,z]),gI kv bs y,gI kv bs z)]:=fE rfl;rw[n];let ab:t≠D:=λw=>by rw[w,ad] at ht;cases ht
   exact .cons #[fR,SqT.of (by rw[fh ab];exact ad)] .nil
 let R:¬ r.getD 0 ""="cell" := by simpa using c
 refine#[_,fR,b,_,0,_,fR,fR,S,hp.at0,fR,_,fR,iteB (λc2=>?_) (λc2=>?_)]
 . let u:r.getD 0 ""="stretch" := by simpa using c2
   obtain⟨x,y,rfl⟩:∃x y,r=[("stretch":fS),x,y]:=by
    rcases hp with⟨a,f,s,rfl⟩|z|⟨a,rfl⟩
    . exact fF rfl R
    . exact z
    exact fF u (by show ¬ ("tree":fS)="stretch";decide)
   intro D e;let m:=fe e (.dK []);refine#[_,fR,_,fR,_,fR,C,_,0,.int s0,fR,fR,SqL.of (m _ _ N),fR,fK,λG g=>?_];let o:=fe g (.tup [.int bs,.int s0]);let l:=m.trans o;refine#[_,fR,C,_,0,.int s0,fR,fR,SqL.of (l _ _ N),fR,_,fR,_,fR,_,fR,b,_,2,.str y,fR,fR,l.seqT S,fR,d,_,fR,(U.at_ (ac rfl)) ▸ DGet.k (k:=Sum.inr y) (l _ _ O),fK,λJ j=>?_];let B:=fe j (.tup [.int bs,.int (vI kv y)]);let v:=l.trans B;let af:H D=eW:=e;let L:G≠D:=λz=>by rw[z,ad] at g;cases g
   let M:J≠D:=λz=>by rw[z,o _ _ ad] at j;cases j
   exists B _ _ (o _ _ ad),[(Sum.inl (vI kv x),.ref G),(Sum.inl s0,.ref J)],fR,(show 2<=15 by decide);refine q D [(vI kv x,G),(s0,J)] _ e (gz e v _) ?_ ?_;rw[ad,oq];rfl;refine AK.mpr #[λz=>?_,AK.mpr #[(by simp),.nil]];let T:(Sum.inl (vI kv x):Key)∈[(Sum.inl s0:Key)]:=z;exact n0 (B5 (Ae.mp T))
   let n:ky kv bs s0 s1 [("stretch":fS),x,y]=[(vI kv x,bs,s0),(s0,bs,vI kv y)]:=by
    unfold ky;rw[fD R,fE u];rfl
   rw[n];exact .cons #[fR,SqT.of (by rw[fh L];exact B _ _ ad)] (.cons #[fR,SqT.of (by rw[fh M];exact ad)] .nil)
 let u:¬ r.getD 0 ""="stretch" := by simpa using c2
 intro D e;let m:=fe e (.dK []);refine#[_,fR,_,fR,C,_,0,.int s0,fR,fR,SqL.of (m _ _ N),fR,_,fR,C,_,1,.int s1,fR,fR,SqL.of (m _ _ N),fR,fK,λG g=>?_];let o:=fe g (.tup [.int s0,.int s1]);let l:=m.trans o;refine#[_,fR,C,_,0,.int s0,fR,fR,SqL.of (l _ _ N),fR,fK,λJ j=>?_];let B:=fe j (.tup [.int 0,.int 0]);let v:=l.trans B;refine#[_,fR,C,_,1,.int s1,fR,fR,SqL.of (v _ _ N),fR,fK,λZ I=>?_];let W:=fe I (.tup [.int 0,.int 0]);let X:=v.trans W;let L:G≠D:=λz=>by rw[z,ad] at g;cases g
 let M:J≠D:=λz=>by rw[z,o _ _ ad] at j;cases j
 let Y:Z≠D:=λz=>by rw[z,B _ _ (o _ _ ad)] at I;cases I
 exists W _ _ (B _ _ (o _ _ ad)),[(Sum.inl (vI kv (place r)),.ref G),(Sum.inl s0,.ref J),(Sum.inl s1,.ref Z)],fR,(show 3<=15 by decide);refine q D [(vI kv (place r),G),(s0,J),(s1,Z)] _ e (gz e X _) ?_ ?_
 . rw[ad,oq];rfl
   . refine AK.mpr #[λz=>?_,AK.mpr #[λz=>?_,AK.mpr #[(by simp),.nil]]];let T:(Sum.inl (vI kv (place r)):Key)∈[(Sum.inl s0:Key),Sum.inl s1]:=z;rcases Ak.mp T with y|y;exact n0 (B5 y);exact n1 (B5 (Ae.mp y))
     let T:(Sum.inl s0:Key)∈[(Sum.inl s1:Key)]:=z;exact n2 (B5 (Ae.mp T))
 let n:ky kv bs s0 s1 r=[(vI kv (place r),s0,s1),(s0,0,0),(s1,0,0)]:=by
  unfold ky;rw[fD R,fD u]
 rw[n];exact .cons #[fR,SqT.of (by rw[fh L];exact W _ _ (B _ _ ad))] (.cons #[fR,SqT.of (by rw[fh M];exact W _ _ ad)] (.cons #[fR,SqT.of (by rw[fh Y];exact ad)] .nil))
abbrev a7d:JA:=top 42
abbrev sCover:JA:=top 43
abbrev sFits:JA:=top 44
def gq(cs:ig)(x:fB):fA (fB×fB):=(cs.find? λc=>decide (c.1=x)).map (·.2)
theorem CellsAt.look(h:CellsAt K H hp cs)(x:fB):(valV (hv hp) (Sum.inl x)=eW/\gq cs x=eW)\/∃t f s,valV (hv hp) (Sum.inl x)=eV (.ref t)/\gq cs x=eV (f,s)/\SqT K H t [.int f,.int s]:=by
 unfold CellsAt at h;induction h with
 |nil=>exact .inl #[fR,fR]
 | @cons p c ps cs h t ih =>
  by_cases e:p.1=x;refine .inr #[p.2,c.2.1,c.2.2,il (p:=((Sum.inl p.1,V.ref p.2):Key×V)) (show(Sum.inl p.1:Key)=Sum.inl x by rw[e]),?_,h.2];unfold gq;simp[Ba,<- h.1,e]
  let b:valV (hv (p::ps)) (Sum.inl x)=valV (hv ps) (Sum.inl x):=iw (p:=((Sum.inl p.1,V.ref p.2):Key×V)) (show ¬ (Sum.inl p.1:Key)=Sum.inl x from λz=>e (B5 z));let a:gq (c::cs) x=gq cs x:=by unfold gq;simp[Ba,<- h.1,e]
  rw[b,a];exact ih
inductive Walk(cs:ig)(stop:fB->Prop)(isS:gQ):fC->eZ fB->eZ fB->fA (eZ fB)->Prop
 |done (n:fC)(row:eZ fB):Walk cs stop isS n [] row (eV row)
 |stop (n:fC)(x:fB)(rest row:eZ fB)(res:fA (eZ fB)):stop x->Walk cs stop isS n rest row res->Walk cs stop isS (n+1) (x::rest) row res
 |fail (n:fC)(x:fB)(rest row:eZ fB):¬ stop x->(gq cs x=eW\/x∈row)->Walk cs stop isS (n+1) (x::rest) row eW
 |step (n:fC)(x f s:fB)(rest row:eZ fB)(res:fA (eZ fB)):¬ stop x->gq cs x=eV (f,s)->¬ x∈row->Walk cs stop isS n ((if isS=eX then [s] else [f,s])++rest) (row++[x]) res->Walk cs stop isS (n+1) (x::rest) row res
theorem ab6(h:Walk cs stop a m [] row res):res=eV row:=by
 cases h;rfl
theorem a6t(h:Walk cs stop a m (x::co) row res):∃n,m=n+1/\((stop x/\Walk cs stop a n co row res)\/(¬ stop x/\(gq cs x=eW\/x∈row)/\res=eW)\/(¬ stop x/\∃f s,gq cs x=eV (f,s)/\¬ x∈row/\Walk cs stop a n ((if a=eX then [s] else [f,s])++co) (row++[x]) res)):=by
 cases h with|stop n _ _ _ _ h1 h2=>exact#[n,fR,.inl #[h1,h2]]|fail n _ _ _ h1 h2=>exact#[n,fR,.inr (.inl #[h1,h2,fR])]|step n _ f s _ _ _ h1 h2 h3 h4=>exact#[n,fR,.inr (.inr #[h1,f,s,h2,h3,h4])]
def mayW(kv:eZ (Key×V))(x:fS)(n:fB):gQ:=decide (x="any") || decide (vI kv x=n)
def uw(kv:eZ (Key×V))(r:fJ)(x:fB):Prop:=(r.getD 0 ""="stretch" /\ x=vI kv (r.getD 2 ""))\/(r.getD 0 ""="tree" /\ x=0)
def a12(kv:eZ (Key×V))(cs:ig)(r:fJ)(res:fA (eZ fB)):Prop :=
 (r.getD 0 ""="cell" -> res=match gq cs (vI kv (place r)) with|none=>eW|some (f,s)=>if(mayW kv (r.getD 2 "") f && mayW kv (r.getD 3 "") s)=eX then eV [vI kv (place r)] else eW)/\
 (¬ r.getD 0 ""="cell" -> ∃N,N<=400/\Walk cs (uw kv r) (decide (r.getD 0 ""="stretch")) N [vI kv (place r)] [] res)
def a48(kv:eZ (Key×V))(r:fJ):Prop:=∀x∈r.drop 1,x="any" \/ (valV kv (Sum.inr x)).isSome=eX
inductive spTakenS(K:Aa)(vs:eZ V)(H:Hp)(Q:VK):Prop
 |mk (d h b:IS)(kv:eZ (Key×V))(hp:eZ (fB×IS))(cs:ig)(r:fJ)(res:fA (eZ fB))(h0:vs=[.ref d,.ref h,.ref b])(h1:H d=eV (.dK kv))(h2:IntsAt kv)(h3:H h=eV (.dK (hv hp)))(h4:CellsAt K H hp cs)(h5:RowAt K H b r)(h6:PartRow r)(h7:(valV kv (Sum.inr (place r))).isSome=eX)(h8:(r.getD 0 ""="stretch" -> (valV kv (Sum.inr (r.getD 2 ""))).isSome=eX))(h9:a48 kv r)(h10:a12 kv cs r res)(h11:(res=eW->∀H',Same H H'->Q .non H'))(h12:∀row,res=eV row->∀D H',H D=eW->Same H H'->H' D=eV (.lst (row.map V.int))->Q (.ref D) H'):spTakenS K vs H Q
def a2o(K:Aa):Sp:=λvs H Q _=>spTakenS K vs H Q
theorem qy:∀ns:eZ fB,DpAll K H (ns.map V.int) (ns.map PyData.int)
 |[]=>.nil
 |x::r=>.cons (.int x) (qy r)
theorem pf:∀ns:eZ fB,Bg (ns.map PyData.int)=eX
 |[]=>by simp only[BF,Bg]
 |x::r=>by simp only[A5,Bg,BK,IB,pf r]
theorem ml:∀ns:eZ fB,Bq (ns.map PyData.int)<=0
 |[]=>by simp only[BF,Bq];exact An _
 |x::r=>by simp only[A5,Bq,Ca];exact Gr.mpr #[An _,ml r]
theorem qj(ns:eZ fB):EqOk (.list (ns.map PyData.int)):=by
 constructor;simp only[BK];exact pf ns;let:=ml ns;simp only[Ca];lia
theorem a2d(l:eZ PyData):Et (.list l) (.list [])=l.isEmpty:=by
 cases l with|nil=>rfl|cons x l=>rfl
theorem agh(c:gQ)(f s:fB):cutV [.int f,.int s] (eV (if c=eX then 1 else 0)) eW=(if c=eX then [s] else [f,s]).map V.int:=by
 cases c<;>rfl
inductive tStopS(K:Aa)(D:Ends)(σ:St)(H:Hp):Prop
 |mk (d b:IS)(kv:eZ (Key×V))(r:fJ)(x:fB)(h0:σ[0]?=eV (eV (.ref d)))(h1:σ[2]?=eV (eV (.ref b)))(h2:σ[3]?=eV (eV (.int x)))(h3:H d=eV (.dK kv))(h4:IntsAt kv)(h5:RowAt K H b r)(h6:PartRow r)(h7:(r.getD 0 ""="stretch" -> (valV kv (Sum.inr (r.getD 2 ""))).isSome=eX))(h8:(uw kv r x->D.ct σ H))(h9:(¬ uw kv r x->D.nx σ H)):tStopS K D σ H
def ag5(K:Aa):TS:=λD σ H=>tStopS K D σ H
inductive tFailS(K:Aa)(D:Ends)(σ:St)(H:Hp):Prop
 |mk (h rl:IS)(hp:eZ (fB×IS))(cs:ig)(row:eZ fB)(x:fB)(h0:σ[1]?=eV (eV (.ref h)))(h1:σ[3]?=eV (eV (.int x)))(h2:σ[4]?=eV (eV (.ref rl)))(h3:H h=eV (.dK (hv hp)))(h4:CellsAt K H hp cs)(h5:H rl=eV (.lst (row.map V.int)))(h6:(gq cs x=eW\/x∈row->D.rt .non H))(h7:(∀f s,gq cs x=eV (f,s)->¬ x∈row->D.nx σ H)):tFailS K D σ H
def agj(K:Aa):TS:=λD σ H=>tFailS K D σ H
theorem a15(x:fB)(l:eZ fB):inV (.int x) (l.map V.int)=decide (x∈l):=by
 unfold inV;rw[Bm,AV,fZ];constructor
 . rintro⟨y,a,e⟩;let(z,hz,rfl):=As.mp a;let:z=x:=by
    let b:(z==x)=eX:=e;simpa using b
   exact this ▸ hz
 intro h;exact#[.int x,As.mpr #[x,h,fR],by show(x==x)=eX;simp]
theorem PartRow.at2s(h:PartRow r)(c:r.getD 0 ""="stretch"):atI (r.map V.str) 2=eV (.str (r.getD 2 "")):=by
 rcases h with⟨a,f,s,rfl⟩|⟨a,b,rfl⟩|⟨a,rfl⟩
 . exact fF c (by show ¬ ("cell":fS)="stretch";decide)
 . rfl
 exact fF c (by show ¬ ("tree":fS)="stretch";decide)
theorem a96(C:Con K mg w)(F:Fun K "_law_taken" "_law_taken" a7d f fd):FnOk P w K mg base CX0 1 f fd ["_law_values","_law_heap","_law_part"] (a2o K):=by
 refine F.okA ["_law_values","_law_heap","_law_part","_law_here","_law_row","_law_word","_law_number","_law_coming"] λa6 A outer s0 H vs Q E hr h nd=>?_;let(d,h,b,kv,hp,cs,r,res,rfl,hD,hI,hH,hC,hR,T,a3,aw,aV,hT,qn,qs):=h;let o:=j4 hr;let hu:=AI (D9 (show 32<=64 by decide) _) hr.units;exists _,fc (fz 3 nd (ik o (qv 0) (fi K (qv 2) dl) (λ_ _=>rfl)))
  (fc (fz 4 nd (ie fb))
  (fc (gg (fo gk (fi K (qv 2) dl) gj (fm _)) (fc (gg (ku o (qv 3) (qv 1)) (ff (fx gu)) gd)
  (fc (im A1 rfl (adj rfl C.zip (ft (kz a5y (qv 2) (lj dl) mq) (ft (ik o (qv 1) (qv 3) (λ_ _=>rfl)) fb))) (a2s (ip 5 nd) (ip 6 nd)) (ff (gg (QW.qt (j6 (fo kc (qv 5) gj (fm _)) (je (fo kc (ik o (qv 0) (qv 5) (λ_ _=>rfl)) (qv 6) (fm _))))) (ff (fx gu)) gd)))
  (ff (fx (ie (fg (qv 3) fb)))))) gd)
  (fc (fz 7 nd (ie (fg (qv 3) fb)))
  (fc (mj A1 (fo (aeo hu) (qv 7) (ie fb) (fm _)) (fc (fz 3 nd (jv (K:=K) rfl A8 CN Eh a94 (qv 7) (ja fb)))
  (fc (nv (t':=ag5 K) (gg (QW.qt (mo (QW.qt (j6 (fo gk (fi K (qv 2) dl) gj (fm _)) (je (fo gk (qv 3) (ik o (qv 0) (fi K (qv 2) dl) (λ_ _=>rfl)) (fm _))))) (ls (QW.qt (j6 (fo gk (fi K (qv 2) dl) gj (fm _)) (je (fo gk (qv 3) dl (fm _)))))))) (ff a21) gd) (λD σ H hh=>by
   let(d,b,kv,r,x,g0,g2,g3,hD,hI,hR,hp,aw,U,no):=hh;refine#[_,g2,b,_,0,_,fR,fR,hR,hp.at0,fR,_,fR,iteB (λc=>?_) (λc=>?_)]
   . let G:r.getD 0 ""="stretch" := by simpa using c
     refine#[_,g3,_,g0,_,g2,b,_,2,_,fR,fR,hR,hp.at2s G,d,_,fR,(hI.at_ (aw G)) ▸ DGet.k (k:=Sum.inr (r.getD 2 "")) hD,fR,_,fR,iteB (λc2=>?_) (λc2=>?_)];exact iteB (λ_=>U (.inl #[G,by simpa using c2])) (λz=>by cases z)
     refine#[_,g2,b,_,0,_,fR,fR,hR,hp.at0,fR,_,fR,iteB (λc3=>?_) (λc3=>?_)]
     . let l:r.getD 0 ""="tree" := by simpa using c3
       rw[G] at l;exact fF l (by decide)
     refine iteN rfl (no (λz=>?_));rcases z with z|z
     . let W:¬ x=vI kv (r.getD 2 ""):=by simpa using c2
       exact W z.2
     let l:¬ r.getD 0 ""="tree" := by simpa using c3
     exact l z.1
   let G:¬ r.getD 0 ""="stretch" := by simpa using c
   refine iteN rfl #[_,g2,b,_,0,_,fR,fR,hR,hp.at0,fR,_,fR,iteB (λc3=>?_) (λc3=>?_)]
   . let l:r.getD 0 ""="tree" := by simpa using c3
     refine#[_,g3,fR,_,fR,iteB (λc4=>?_) (λc4=>?_)];exact U (.inr #[l,by simpa using c4])
     refine no (λz=>?_);rcases z with z|z;exact G z.1
     let a2:¬ x=0:=by simpa using c4
     exact a2 z.2
   refine iteN rfl (no (λz=>?_));rcases z with z|z;exact G z.1
   let l:¬ r.getD 0 ""="tree" := by simpa using c3
   exact l z.1))
  (fc (nv (t':=agj K) (gg (QW.qt (mo (ku o (qv 3) (qv 1)) (ls (fo ud (qv 3) (qv 4) (by with_unfolding_all rfl))))) (ff (fx gu)) gd) (λD σ H hh=>by
   let(h,g,hp,cs,row,x,g1,g3,g4,hH,hC,hL,U,no):=hh;rcases hC.look x with⟨z1,z2⟩|⟨t,f,s,z1,z2,z3⟩
   . refine#[_,g3,_,g1,h,_,fR,DGet.k (k:=Sum.inl x) hH,_,fR,?_];rw[z1];exact iteB (λ_=>U (.inl z2)) (λc=>by cases c)
   refine#[_,g3,_,g1,h,_,fR,DGet.k (k:=Sum.inl x) hH,_,fR,?_];rw[z1];refine iteN rfl #[_,g3,_,g4,g,_,fR,.inl (SqL.of hL),fR,(by rw[E2];exact Bo.mpr λ_ _=>rfl),_,fR,?_];refine iteB (λc=>U (.inr (fV ((a15 x row).symm.trans c)))) (λc=>no f s z2 (λz=>?_));let z':inV (.int x) (row.map V.int)=eX:=(a15 x row).trans (fU z);exact fF (z'.symm.trans c) (by decide)))
  (fc (ia (jv (K:=K) rfl A8 AO AQ ji (qv 4) (fg (qv 3) fb)))
  (ff (fz 7 nd (fj lc (kz nu (iz km rfl C.list Be (ft (ik o (qv 1) (qv 3) (λ_ _=>rfl)) fb)) (lj (iz qp rfl C.int Eg (jq (j7 gk (fi K (qv 2) dl) gj (fm _)) fb))) mq) (qv 7)))))))))
  (ff (fx (qv 4)))))))
 nofun
 exists _,fR,_,fR,b,_,1,_,fR,fR,hR,T.at1,d,_,fR,(hI.at_ a3) ▸ DGet.k (k:=Sum.inr (place r)) hD;refine#[AF _,λg av=>?_];let s1:=fe av (.lst []);let Z:(upd H g (.lst [])) g=eV (.lst (([]:eZ fB).map V.int)):=ad;let aL:=s1 _ _ hD;let J:=s1 _ _ hH;let al:=hC.same s1;let ag:=RowAt.same hR s1;generalize upd H g (.lst [])=H1 at s1 Z aL J al ag |-;dsimp only[jh];refine sr (a:=tIfS _ _ _) λD1 ak q aE=>?_;refine#[_,fR,b,_,0,_,fR,fR,ag,T.at0,fR,_,fR,iteB (λc=>?_) (λc=>?_)]
 . clear ak;let G:r.getD 0 ""="cell" := by simpa using c
   let R:=hT.1 G;obtain⟨x,y,z,rfl⟩:∃x y z,r=[("cell":fS),x,y,z]:=by
    rcases T with z|⟨x,y,rfl⟩|⟨a,rfl⟩;exact z;exact fF G (by show ¬ ("stretch":fS)="cell";decide);exact fF G (by show ¬ ("tree":fS)="cell";decide)
   rcases al.look (vI kv (place [("cell":fS),x,y,z])) with⟨z1,z2⟩|⟨t,f,s,z1,z2,z3⟩
   . exists _,fR,_,fR,h,_,fR,DGet.k (k:=Sum.inl _) J,_,rfl;rw[z1];refine iteB (λ_=>?_) (λc=>by cases c);exact q _ _ (qn (by rw[R,z2]) _ s1)
   exists _,fR,_,fR,h,_,fR,DGet.k (k:=Sum.inl _) J,_,rfl;rw[z1];refine iteB (λc=>by cases c) (λ_=>?_);refine#[_,fR,_,fR,b,_,fR,ag,(show ¬ (min 2 4=0/\4=4) by decide),λt2 aR=>?_];let s2:=fe aR (.tup [.str y,.str z]);let aZ:cutV (([("cell":fS),x,y,z]:fJ).map V.str) (eV 2) eW=[.str y,.str z]:=rfl;rw[aZ];let ae:=s1.trans s2;let ao:(upd H1 t2 (.tup [.str y,.str z])) t2=eV (.tup [.str y,.str z]):=ad;let aA:=s2 _ _ J;let au:=s2.seqT z3;generalize upd H1 t2 (.tup [.str y,.str z])=H2 at s2 ae ao aA au |-;exists _,fR,_,fR,h,.ref t,fR,z1 ▸ DGet.k (k:=Sum.inl _) aA,t2,t,_,_,fR,SqT.of ao,au;let word:∀u,u∈[y,z]->u="any" \/ valV kv (Sum.inr u)=eV (.int (vI kv u)):=λu hu=>by
    rcases aV u (Ag _ hu) with w|w;exact .inl w;exact .inr (hI.at_ w)
   refine aa3 (K:=K) (xs:=[.str y,.str z]) (ys:=[.int f,.int s]) (λi σ M=>Same H2 M/\(0<i->mayW kv y f=eX)/\(1<i->mayW kv z s=eX)/\∃z5 z6 z7:fA V,σ=[eV (.ref d),eV (.ref h),eV (.ref b),eV (.int (vI kv (place [("cell":fS),x,y,z]))),eV (.ref g),z5,z6,z7])
    #[Same.refl _,(λc=>fF c (AZ _)),(λc=>fF c (by decide)),eW,eW,eW,fR] (λi σ M pv=>#[SqT.of (pv.1 _ _ ao),pv.1.seqT au]) rfl ?_ ?_
   . rintro i v1 v2 σ M p a5 aY ⟨e3,m1,m2,z5,z6,z7,rfl⟩ a0
     nofun
     obtain⟨u,n,rfl,rfl,a1,aI⟩:∃(u:fS) (n:fB),v1=.str u/\v2=.int n/\u∈[y,z]/\((i=0/\u=y/\n=f)\/(i=1/\u=z/\n=s)):=by
      match i,a5,aY with
      |0,h1,h2=>exact#[y,f,(Am h1).symm,(Am h2).symm,Af ..,.inl #[fR,fR,fR]]
      |1,h1,h2=>exact#[z,s,(Am h1).symm,(Am h2).symm,Ag _ (Af ..),.inr #[fR,fR,fR]]
      | (i+2),h1,h2=>cases h1
     let s3:=fe a0 (.tup [.str u,.int n]);let X:=e3.trans s3;let aJ:=(ae.trans X) _ _ hD;let aS:mayW kv u n=eY->res=eW:=λhb=>by
      rw[R,z2];rcases aI with⟨_,rfl,rfl⟩|⟨_,rfl,rfl⟩
      . show(if(mayW kv u n && mayW kv z s)=eX then _ else _)=_;rw[hb];rfl
      show(if(mayW kv y f && mayW kv u n)=eX then _ else _)=_;rw[hb,Im];rfl
     let ai:mayW kv u n=eX->(0<i+1->mayW kv y f=eX)/\(1<i+1->mayW kv z s=eX):=λhg=>by
      rcases aI with⟨rfl,rfl,rfl⟩|⟨rfl,rfl,rfl⟩
      . exact#[λ_=>hg,λc=>fF c (AZ _)]
      exact#[λ_=>m1 (by decide),λ_=>hg]
     exists p,_,fR,SqT.of ad,fR,_,_,fR,_,_,fR,rfl;generalize upd M p (.tup [.str u,.int n])=H4 at s3 X aJ |-;refine#[_,rfl,rfl,_,rfl,iteB (λc1=>?_) (λc1=>?_)]
     . let ah:¬ u="any" := by simpa using c1
       let hv:=(word u a1).resolve_left ah;refine#[_,fR,_,fR,d,_,fR,hv ▸ DGet.k (k:=Sum.inr u) aJ,_,fR,fR,_,fR,iteB (λc2=>?_) (λc2=>?_)]
       . let W:¬ vI kv u=n:=by simpa using c2
         exact q _ _ (qn (aS (by unfold mayW;rw[fT ah,fT W];rfl)) _ (ae.trans X))
       let W:vI kv u=n:=by simpa using c2
       let(g1,g2):=ai (by unfold mayW;rw[fU W,Bool.or_true]);exact#[X,g1,g2,_,_,_,fR]
     let ah:u="any" := by simpa using c1
     let(g1,g2):=ai (by unfold mayW;rw[fU ah];rfl);exact iteB (λw=>by cases w) (λ_=>#[X,g1,g2,_,_,_,fR])
   rintro σ M ⟨e3,m1,m2,z5,z6,z7,rfl⟩;refine#[_,fR,fL,λD aO=>?_];let e9:=ae.trans e3;let aU:res=eV [vI kv (place [("cell":fS),x,y,z])]:=by
    rw[R,z2];show(if(mayW kv y f && mayW kv z s)=eX then _ else _)=_;rw[m1 (show 0<2 by decide),m2 (show 1<2 by decide)];rfl
   exact q _ _ (qs _ aU D _ (e9.free aO) (e9.trans (fe aO _)) ad)
 refine ak _ _ ?_;clear ak q aE D1;let G:¬ r.getD 0 ""="cell" := by simpa using c
 let(N,aW,hW):=hT.2 G;refine#[_,fR,fL,λcl S=>?_];let v:cl≠g:=λz=>by rw[z,Z] at S;cases S
 let j:H cl=eW:=s1.free S;let s2:=fe S (.lst [.int (vI kv (place r))]);let ax:(upd H1 cl (.lst [.int (vI kv (place r))])) cl=eV (.lst (([vI kv (place r)]:eZ fB).map V.int)):=ad;let an:=s2 _ _ Z;let e2:=s1.trans s2;generalize upd H1 cl (.lst [.int (vI kv (place r))])=H2 at s2 ax an e2 |-;obtain⟨Wv,Y⟩:∃Wv:fC->St->Hp->Prop,Wv=λm σ M=>Same H M/\∃(cl:IS) (co row:eZ fB) (x3:fB) (z5 z6:fA V),H cl=eW/\cl≠g/\M cl=eV (.lst (co.map V.int))/\M g=eV (.lst (row.map V.int))/\co.length+m<=401/\row.length+m<=400/\Walk cs (uw kv r) (decide (r.getD 0 ""="stretch")) m co row res/\σ=[rQ d,rQ h,rQ b,iQ x3,rQ g,z5,z6,rQ cl]:=#[_,fR]
 exists Wv,#[N,by rw[Y];exact#[e2,cl,_,[],_,eW,eW,j,v,ax,an,(show 1+N<=401 by lia),(by simpa using aW),hW,fR]];clear j v ax an e2 s2 S hW Z aL J al ag;intro m σ M hq;rw[Y] at hq;let(e3,cl,co,row,x3,z5,z6,j,v,ar,az,aP,a7,hW,rfl):=hq;refine#[_,fR,AF _,λln aC=>?_];let s4:=fe aC (.lst []);exists .list (co.map PyData.int),.list [],.lst (SqL.of (s4 _ _ ar)) (qy co),.lst (SqL.of ad) .nil,qj co,qj [],_,rfl;rw[a2d];let X:=e3.trans s4;let ab:=s4 _ _ ar;let ac:=s4 _ _ az;clear ar az e3;generalize upd M ln (.lst [])=H4 at s4 X ab ac |-;cases co with
 |nil =>
  refine iteB (λw=>by cases w) (λ_=>?_);exact#[_,fR,qs row (ab6 hW) g H4 av X ac]
 |cons x co =>
  let(n,rfl,aj):=a6t hW;clear hW;refine iteB (λ_=>#[_,λ_ _ z=>z,?_]) (λw=>by cases w);exists _,fR,.inl #[fR,_,SqL.of ab],cl,_,0,0,.int x,fR,fR,ab,(by decide),(by decide),(by simp[seqIndex?]),rfl;let af:(upd H4 cl (.lst (((x::co).map V.int).eraseIdx 0))) cl=eV (.lst (co.map V.int)):=ad;let B:(upd H4 cl (.lst (((x::co).map V.int).eraseIdx 0))) g=eV (.lst (row.map V.int)):=by rw[fh (AE v)];exact ac
  let e5:Same H (upd H4 cl (.lst (((x::co).map V.int).eraseIdx 0))):=gz j X _;clear ab ac X s4 aC;generalize upd H4 cl (.lst (((x::co).map V.int).eraseIdx 0))=H5 at af B e5 |-;refine#[d,b,kv,r,x,rfl,rfl,rfl,e5 _ _ hD,hI,RowAt.same hR e5,T,aw,λI=>?_,λI=>?_]
  . rcases aj with⟨_,ap⟩|⟨ay,_⟩|⟨ay,_⟩
    . exact#[n,BB n,by rw[Y];exact#[e5,cl,co,row,x,z5,z6,j,v,af,B,(by rw[Au] at aP;lia),(by lia),ap,fR]]
    . exact fF I ay
    exact fF I ay
  refine#[h,g,hp,cs,row,x,fR,fR,fR,e5 _ _ hH,hC.same e5,B,λhb=>?_,λf s O aX=>?_]
  . rcases aj with⟨am,_⟩|⟨_,_,hn⟩|⟨_,f,s,L,aM,_⟩
    . exact fF am I
    . exact qn hn _ e5
    exact fF hb (λz=>z.elim (λy=>by rw[L] at y;cases y) aM)
  rcases aj with⟨am,_⟩|⟨_,hb,_⟩|⟨_,f',s',L,aM,ap⟩
  . exact fF am I
  . exact fF hb (λz=>z.elim (λy=>by rw[O] at y;cases y) aX)
  rw[O] at L;cases L;exists _,fR,.inl #[fR,_,SqL.of B],_,fR,g,_,_,fR,fR,B,jf (by rw[Ad];lia);let aG:(upd H5 g (.lst (row.map V.int++[.int x]))) g=eV (.lst ((row++[x]).map V.int)):=by rw[ad,Ax];rfl
  let aN:(upd H5 g (.lst (row.map V.int++[.int x]))) cl=eV (.lst (co.map V.int)):=by rw[fh v];exact af
  let e6:Same H (upd H5 g (.lst (row.map V.int++[.int x]))):=gz av e5 _;clear B af e5;generalize upd H5 g (.lst (row.map V.int++[.int x]))=H6 at aG aN e6 |-;let(t,f9,s9,y1,y2,y3):=((hC.same e6).look x).resolve_left (λz=>by rw[z.2] at O;cases O);rw[O] at y2;cases y2;refine#[_,fR,_,fR,h,.ref t,fR,y1 ▸ DGet.k (k:=Sum.inl x) (e6 _ _ hH),t,_,fR,.inr y3,λll a4=>?_];let s7:=fe a4 (.lst [.int f,.int s]);let aQ:(upd H6 ll (.lst [.int f,.int s])) ll=eV (.lst [.int f,.int s]):=ad;let e7:=e6.trans s7;let aK:=s7 _ _ aG;let aH:=s7 _ _ aN;generalize upd H6 ll (.lst [.int f,.int s])=H7 at s7 aQ e7 aK aH |-;exists _,fR,b,_,0,_,fR,fR,RowAt.same hR e7,T.at0,fR,_,rfl;let aB:decide (V.str (r.getD 0 "")=V.str "stretch")=decide (r.getD 0 ""="stretch"):=by
   by_cases e:r.getD 0 ""="stretch";rw[fU e,fU (by rw[e])];rw[fT e,fT (λz=>e (V.str.inj z))]
  rw[aB];refine#[_,fR,ll,_,fR,SqL.of aQ,λp1 aT=>?_];rw[agh];let s8:=fe aT (.lst ((if decide (r.getD 0 ""="stretch")=eX then [s] else [f,s]).map V.int));let aF:(upd H7 p1 (.lst ((if decide (r.getD 0 ""="stretch")=eX then [s] else [f,s]).map V.int))) p1=eV (.lst ((if decide (r.getD 0 ""="stretch")=eX then [s] else [f,s]).map V.int)):=ad;let e8:=e7.trans s8;let aq:=s8 _ _ aK;let aD:=s8 _ _ aH;generalize upd H7 p1 (.lst ((if decide (r.getD 0 ""="stretch")=eX then [s] else [f,s]).map V.int))=H8 at s8 aF e8 aq aD |-;let L:(if decide (r.getD 0 ""="stretch")=eX then [s] else [f,s]).length<=2:=by split<;>simp
  rw[Au] at aP;refine#[_,fR,p1,cl,_,_,fR,fR,aF,aD,(by rw[Ad,Ad];exact B7 (jf (by lia))),λnc aa=>?_];let s9:=fe aa (.lst ((if decide (r.getD 0 ""="stretch")=eX then [s] else [f,s]).map V.int++co.map V.int));exists n,BB n;rw[Y];refine#[e8.trans s9,nc,(if decide (r.getD 0 ""="stretch")=eX then [s] else [f,s])++co,row++[x],x,z5,z6,e8.free aa,(λz=>by rw[z,aq] at aa;cases aa),(by rw[ad,Ax]),s9 _ _ aq,(by rw[Aj];lia),(by rw[Aj,Av];lia),ap,fR]
def wj(kv:eZ (Key×V))(r:fJ):gQ:=decide (vI kv (r.getD 1 "")=vI kv (r.getD 2 ""))==decide (r.getD 0 ""="is")
structure CovOk(kv:eZ (Key×V))(F:fG)(rs:eZ (fA (eZ fB)))(rows:eZ (eZ fB)):Prop where
 facts:∀r∈F,wj kv r=eX
 all:rs=rows.map eV
 nd:rows.flatten.Nodup
structure CovIn(K:Aa)(H:Hp)(d h tl fl ql:IS)(kv:eZ (Key×V))(hp:eZ (fB×IS))(cs:ig)(F P:fG)(rs:eZ (fA (eZ fB))):Prop where
 vals:H d=eV (.dK kv)
 num:IntsAt kv
 heap:H h=eV (.dK (hv hp))
 cells:CellsAt K H hp cs
 tell:SqT K H tl [.ref fl,.ref ql]
 rF:RowsAt K H fl F
 Fr:∀r∈F,i5 r
 Fv:∀r∈F,a48 kv r/\¬ ("any":fS)∈r.drop 1
 rP:RowsAt K H ql P
 Pr:∀r∈P,PartRow r
 Pv:∀r∈P,a48 kv r/\(valV kv (Sum.inr (place r))).isSome=eX/\(r.getD 0 ""="stretch" -> (valV kv (Sum.inr (r.getD 2 ""))).isSome=eX)
 res:IZ (λr o=>a12 kv cs r o) P rs
 few:(rs.filterMap id).flatten.length<=900
 fewP:P.length<=100
def sk(l:eZ fB):eZ (Key×V):=l.map λx=>(Sum.inl x,V.bl eX)
theorem a6e(l:eZ fB)(x:fB):(valV (sk l) (Sum.inl x)).isSome=decide (x∈l):=by
 rw[<- ko];unfold sk;rw[Dj,Bm,AV,fZ];constructor;rintro⟨y,a,e⟩;let:y=x:=B5 (fV e);exact this ▸ a;intro b;exact#[x,b,fU rfl]
theorem aej(h:¬ x∈l):putK (sk l) (Sum.inl x) (.bl eX)=sk (l++[x]):=by
 let:valV (sk l) (Sum.inl x)=eW:=by
  let:=a6e l x;rw[fT h] at this;cases hz:valV (sk l) (Sum.inl x) with|none=>rfl|some v=>rw[hz] at this;cases this
 rw[lq this];unfold sk;rw[Ax];rfl
def LRows(S:IS->Prop)(H:Hp)(as:eZ IS)(rows:eZ (eZ fB)):Prop:=IZ (λa row=>H a=eV (.lst (row.map V.int))/\¬ S a) as rows
theorem LRows.same(h:LRows S H as rows)(e:Same H H'):LRows S H' as rows:=Paired.mapP h λ_ _ z=>#[e _ _ z.1,z.2]
theorem LRows.put(h:LRows S H as rows)(d:S a)(o:HO):LRows S (upd H a o) as rows:=Paired.mapP h λb _ z=>#[by
 let c:b≠a:=λw=>z.2 (by rw[w];exact d);rw[fh c];exact z.1,z.2]
theorem a0e{a:eZ (eZ fB)}(h:rows.map eV=a.map eV):rows=a:=(CV (λ_ _ z=>Am z)).mp h
theorem a5a{rows a:eZ (eZ fB)}{rs:eZ (fA (eZ fB))}{i:fC}{row:eZ fB}(h:rs=a.map eV)(c:rows.map eV=rs.take i)(hi:rs[i]?=eV (eV row)):∃rest,a=rows++row::rest:=by
 subst h;rw[<- EW] at c;let h1:=a0e c;rw[Ap] at hi;cases hz:a[i]? with
 |none=>rw[hz] at hi;cases hi
 |some row' =>
  rw[hz] at hi;let:row'=row:=Am (Am hi);subst this;exists a.drop (i+1);let b:=(Ao.mp hz).1;let hd:a.drop i=row'::a.drop (i+1):=by
   rw[DF b,(Ao.mp hz).2]
  rw[h1,<- hd,Ga]
theorem a7p{rows:eZ (eZ fB)}{rs:eZ (fA (eZ fB))}(c:rows.map eV=rs.take i)(hi:rs[i]?=eV (eV row)):rows.flatten.length+row.length<=(rs.filterMap id).flatten.length:=by
 let a:=(Ao.mp hi).1;let hd:rs.drop i=eV row::rs.drop (i+1):=by
  rw[DF a,(Ao.mp hi).2]
 let e:rs=rows.map eV++eV row::rs.drop (i+1):=by rw[c,<- hd,Ga]
 rw[e,Dl,DH,BO,Aj];let d:ED (id∘eV) rows=rows:=GX;rw[d];let b:ED id (eV row::rs.drop (i+1))=row::ED id (rs.drop (i+1)):=rfl;rw[b,CB,Aj]
 lia
inductive spCoverS(K:Aa)(vs:eZ V)(H:Hp)(Q:VK):Prop
 |mk (d h tl fl ql:IS)(kv:eZ (Key×V))(hp:eZ (fB×IS))(cs:ig)(F P:fG)(rs:eZ (fA (eZ fB)))(h0:vs=[.ref d,.ref h,.ref tl])(h1:CovIn K H d h tl fl ql kv hp cs F P rs)(h2:(∀rows,CovOk kv F rs rows->∀D as H',Same H H'->H' D=eV (.lst (as.map V.ref))->LRows (λ_=>False) H' as rows->Q (.ref D) H'))(h3:((¬ ∃rows,CovOk kv F rs rows)->∀H',Same H H'->Q .non H')):spCoverS K vs H Q
def spCover(K:Aa):Sp:=λvs H Q _=>spCoverS K vs H Q
theorem scCover:FnScope ["_law_values","_law_heap","_law_telling","_law_word","_law_a","_law_b","_law_rows","_law_seen","_law_part","_law_row","_law_address"] ["_law_values","_law_heap","_law_telling"] (i8 sCover):=#[fR,fR,fR,by decide,fR,by decide,by decide]
theorem ok_cover(C:Con K mg w)(F:Fun K "_law_cover" "_law_cover" sCover f fd)(GT:FnOk P w K mg base CX0 1 gT dT eS (a2o K))(cT:eQ GT "_law_taken"):FnOk P w K mg base CX0 2 f fd ["_law_values","_law_heap","_law_telling"] (spCover K):=by
 refine F.okQ scCover (λvs H Q E h=>?_) (λaT A outer s0 H vs Q E hr h=>?_);let(d,h,tl,fl,ql,kv,hp,cs,F,P,rs,rfl,_):=h;rfl
 let(d,h,tl,fl,ql,kv,hp,cs,Fs,Ps,rs,rfl,I,qs,qn):=h;let nd:=scCover.nd;let T:=j4 hr;exists _,fc (im A1 rfl (iq (fi K (qv 2) dl)) (a3w (ip 3 nd) (ip 4 nd) (ip 5 nd)) (ff (gg (fo kc (j7 gk (ik T (qv 0) (qv 4) (λ_ _=>rfl)) (ik T (qv 0) (qv 5) (λ_ _=>rfl)) (fm _)) (j7 gk (qv 3) gj (fm _)) (fm _)) (ff (fx gu)) gd)))
  (fc (fz 6 nd (ie fb))
  (fc (fz 7 nd lx)
  (fc (im A1 rfl (iq (fi K (qv 2) dl)) (ip 8 nd) (fc (fz 9 nd (gm GT hr cT (fg (qv 0) (fg (qv 1) (fg (qv 8) fb)))))
  (fc (gg (fo lu (qv 9) gu (fm _)) (ff (fx gu)) gd)
  (fc (im A1 rfl (iq (qv 9)) (ip 10 nd) (fc (gg (ub T (qv 10) (qv 7)) (ff (fx gu)) gd)
  (ff (jg T (qv 7) (qv 10) md))))
  (ff (ia (jv (K:=K) rfl A8 AO AQ ji (qv 6) (fg (qv 9) fb))))))))
  (ff (fx (qv 6))))))
 nofun
 let(aN,aB,aE):=id I.rF;let(aG,aD,ay):=id I.rP;refine sr (a:=tFor _ _ _) λD1 am Y ap=>?_;exists _,fR,tl,_,0,.ref fl,fR,fR,I.tell,fR,fl,fR,#[_,SqL.of aB];refine jj (xs:=aN.map V.ref) (λi σ O=>O=H/\(∀r∈Fs.take i,wj kv r=eX)/\∃z3 z4 z5:fA V,σ=[rQ d,rQ h,rQ tl,z3,z4,z5,nQ,nQ,nQ,nQ,nQ])
  #[fR,(λr hr=>by simp at hr),eW,eW,eW,fR] (λi σ O _ pv=>by rw[pv.1];exact SqL.of aB) ?_ ?_
 . rintro i x σ O hi ⟨rfl,W,z3,z4,z5,rfl⟩
   nofun
   let(b',hb,rfl):=lk hi;let(r,l,N):=Paired.nth aE hb;let L:=Ar l;let(ai,aP):=I.Fv r L;let(k,u,v,rfl,hk):=I.Fr r L;let aM:Fs.take (i+1)=Fs.take i++[[k,u,v]]:=by rw[AL,l];rfl
   let val:∀y∈[u,v],valV kv (Sum.inr y)=eV (.int (vI kv y)):=λy hy=>I.num.at_ ((ai y hy).resolve_left (λz=>aP (z ▸ hy)));let aL:=val u (Af ..);let aQ:=val v (Ag _ (Af ..));exists b',_,fR,N,fR,_,_,fR,_,_,fR,_,_,fR,rfl;exists _,fR,_,fR,d,_,fR,aL ▸ DGet.k (k:=Sum.inr u) I.vals,_,fR,_,fR,d,_,fR,aQ ▸ DGet.k (k:=Sum.inr v) I.vals,fR,_,fR,fR,fR,_,rfl;let e1:wj kv [k,u,v]=(decide (V.int (vI kv u)=V.int (vI kv v))==decide (V.str k=V.str "is")):=by
    show(decide (vI kv u=vI kv v)==decide (k="is"))=_
    congr 1;by_cases e:vI kv u=vI kv v;rw[fU e,fU (by rw[e])];rw[fT e,fT (λz=>e (V.int.inj z))]
    by_cases e:k="is";rw[fU e,fU (by rw[e])];rw[fT e,fT (λz=>e (V.str.inj z))]
   refine iteB (λc=>?_) (λc=>?_)
   . refine Y _ _ (qn (λ⟨rows,h⟩=>?_) O (Same.refl _));let:=h.facts _ L;rw[e1] at this;let c':¬ decide (V.int (vI kv u)=V.int (vI kv v))=decide (V.str k=V.str "is"):=by simpa using c
     exact c' (by simpa using this)
   refine#[fR,λr hr=>?_,_,_,_,fR];rw[aM] at hr;rcases Ab.mp hr with z|z;exact W r z
   rw[Ae.mp z,e1];let c':decide (V.int (vI kv u)=V.int (vI kv v))=decide (V.str k=V.str "is"):=by simpa using c
   rw[c'];simp
 rintro σ O ⟨rfl,W,z3,z4,z5,rfl⟩;refine am _ _ ?_;clear am Y ap D1;let ax:=A3 aE;rw[Ad,ax,AW] at W;refine#[AF _,λt aC=>?_];let s1:=fe aC (.lst []);intro q X;let s2:=fe X (.dK []);let e2:=s1.trans s2;let ao:t≠q:=λz=>by rw[<- z,ad] at X;cases X
 let an:O q=eW:=s1.free X;let aa:(upd (upd O t (.lst [])) q (.dK [])) t=eV (.lst (([]:eZ IS).map V.ref)):=s2 _ _ ad;let ab:(upd (upd O t (.lst [])) q (.dK [])) q=eV (.dK (sk [])):=ad;generalize upd (upd O t (.lst [])) q (.dK [])=H3 at e2 aa ab |-;exists _,fR,tl,_,1,.ref ql,fR,fR,e2.seqT I.tell,fR,ql,fR,#[_,SqL.of (e2 _ _ aD)];let al:=A3 ay;refine jj (xs:=aG.map V.ref) (λi σ H4=>Same O H4/\Ex5 λ(as:eZ IS) (rows:eZ (eZ fB)) (z8 z9 p:fA V)=>And6 (H4 t=eV (.lst (as.map V.ref))) (H4 q=eV (.dK (sk rows.flatten))) (LRows (λa=>a=t\/a=q) H4 as rows) (rows.map eV=rs.take i) (rows.flatten.Nodup) (σ=[rQ d,rQ h,rQ tl,z3,z4,z5,rQ t,rQ q,z8,z9,p]))
  #[e2,[],[],eW,eW,eW,aa,ab,.nil,fR,.nil,fR] (λi σ H4 _ pv=>SqL.of (pv.1 _ _ aD)) ?_ ?_
 . rintro i x σ H4 hi ⟨e4,as,rows,z8,z9,p,B,R,U,s,ah,rfl⟩
   nofun
   let(b',hb,rfl):=lk hi;let(r,l,N):=Paired.nth ay hb;let L:=Ar l;let(o,m,aH):=Paired.nth I.res l;let(ai,aK,aO):=I.Pv r L;let aV:i<Ps.length:=(Ao.mp l).1;let aI:=I.fewP;let aR:as.length<=100:=by
    let h1:=A3 U;let h2:(rows.map eV).length=(rs.take i).length:=by rw[s]
    rw[Ad,AG] at h2
    lia
   let ak:∀{g:eZ (eZ fB)},CovOk kv Fs rs g->o≠eW:=λ{g} hc z=>by
    rw[z,hc.all,Ap] at m;cases hz:g[i]? with|none=>rw[hz] at m;cases m|some y=>rw[hz] at m;cases m
   refine#[_,fR,_,fR,_,fR,d,h,b',kv,hp,cs,r,o,fR,e4 _ _ I.vals,I.num,e4 _ _ I.heap,I.cells.same e4,RowAt.same N e4,I.Pr r L,aK,aO,ai,aH,λhn H5 e5=>?_,λrow az D H5 S e5 au=>?_];refine#[_,fR,fR,_,fR,iteB (λ_=>?_) (λc=>by simp at c)];exact qn (λ⟨g,hc⟩=>ak hc hn) _ (e4.trans e5)
   subst az;let ac:D≠t:=λz=>by rw[z,B] at S;cases S
   let ae:D≠q:=λz=>by rw[z,R] at S;cases S
   let aS:=a7p s m;let aU:=I.few;refine#[_,fR,fR,_,fR,iteB (λc=>by simp at c) (λ_=>?_)];exists _,fR,D,fR,#[_,SqL.of au];refine jj (xs:=row.map V.int) (λj σ Z=>Same O Z/\Z t=eV (.lst (as.map V.ref))/\Z D=eV (.lst (row.map V.int))/\LRows (λa=>a=t\/a=q) Z as rows/\Z q=eV (.dK (sk (rows.flatten++row.take j)))/\(rows.flatten++row.take j).Nodup/\∃p:fA V,σ=[rQ d,rQ h,rQ tl,z3,z4,z5,rQ t,rQ q,rQ b',rQ D,p])
    #[e4.trans e5,e5 _ _ B,au,U.same e5,by rw[Cd,A2];exact e5 _ _ R,by rw[Cd,A2];exact ah,_,fR] (λj σ Z _ pv=>SqL.of pv.2.2.1) ?_ ?_
   . rintro j y σ Z hj ⟨e6,J,ag,M,n,G,p,rfl⟩
     nofun
     let aj:j<row.length:=by let:=(Ao.mp hj).1;rw[Ad] at this;exact this
     obtain rfl:y=.int row[j]:=by
      rw[Ap,Ah aj] at hj;exact(Am hj).symm
     let af:row.take (j+1)=row.take j++[row[j]]:=by rw[AL,Ah aj];rfl
     exists _,fR,_,fR,q,_,fR,DGet.k (k:=Sum.inl row[j]) n,_,rfl;rw[a6e];refine iteB (λc=>?_) (λc=>?_);refine qn (λ⟨g,hc⟩=>?_) _ e6;let(rest,aF):=a5a hc.all s m;let aA:=hc.nd;rw[aF,BO,CB,<- A4] at aA;let aw:=(AN.mp aA).1;let hx:=fV c;rcases Ab.mp hx with z|z;exact fF rfl ((AN.mp aw).2.2 _ z _ (AH aj));let aJ:=(AN.mp aw).2.1;let aq:(row.take (j+1)).Nodup:=CW (Fb _ _) aJ;rw[af] at aq;exact fF rfl ((AN.mp aq).2.2 _ z _ (Ae.mpr rfl))
     let hx:=fW c;let av:(sk (rows.flatten++row.take j)).length<=1000:=by
      unfold sk;rw[Ad,Aj,AG]
      lia
     exists _,fR,_,fR,q,_,fR,DPut.k (k:=Sum.inl row[j]) n (jf av);rw[aej hx];refine#[gz an e6 _,by rw[fh ao];exact J,by rw[fh ae];exact ag,M.put (.inr rfl) _,by rw[ad,af,A4],?_,_,fR];rw[af,<- A4];refine AN.mpr #[G,by simp,λa ha b hb=>?_];rw[Ae.mp hb];exact λz=>hx (z ▸ ha)
   rintro σ Z ⟨e6,J,ag,M,n,G,p,rfl⟩;rw[Ad,AW] at n G;exists _,fR,.inl #[fR,_,SqL.of J],_,fR,t,_,_,fR,fR,J,jf (by rw[Ad];lia);refine#[gz aC e6 _,as++[D],rows++[row],_,_,_,by rw[ad,Ax];rfl,by rw[fh (AE ao),BO,FQ];exact n,Paired.snocP (M.put (.inl rfl) _) #[by rw[fh ac];exact ag,λz=>z.elim ac ae],?_,?_,fR];rw[Ax,s,AL,m];rfl;rw[BO,FQ];exact G
 rintro σ H4 ⟨e4,as,rows,z8,z9,p,B,R,U,s,ah,rfl⟩;let ar:=A3 I.res;rw[Ad,al,ar,AW] at s;exact#[_,fR,qs rows #[W,s.symm,ah] t as H4 e4 B (Paired.mapP U λ_ _ z=>#[z.1,id])]
theorem lenK(h:X.K=K):kb X (.builtin "len") (λxs H Q=>∃p ys,xs=[.ref p]/\(SqL K H p ys\/SqT K H p ys)/\Q (.int ys.length) H):=by subst h;exact i6
inductive spFitsS(K:Aa)(vs:eZ V)(H:Hp)(Q:VK):Prop
 |mk (d h tl fl ql:IS)(kv:eZ (Key×V))(hp:eZ (fB×IS))(cs:ig)(F P:fG)(rs:eZ (fA (eZ fB)))(h0:vs=[.ref d,.ref h,.ref tl])(h1:CovIn K H d h tl fl ql kv hp cs F P rs)(h2:∀(b:gQ) H',Same H H'->(b=eX↔∃rows,CovOk kv F rs rows/\rows.flatten.length=cs.length)->Q (.bl b) H'):spFitsS K vs H Q
def spFits(K:Aa):Sp:=λvs H Q _=>spFitsS K vs H Q
theorem scFits:FnScope ["_law_values","_law_heap","_law_telling","_law_rows"] ["_law_values","_law_heap","_law_telling"] (i8 sFits):=#[fR,fR,fR,by decide,fR,by decide,by decide]
theorem ok_fits(C:Con K mg w)(F:Fun K "_law_fits" "_law_fits" sFits f fd)(GC:FnOk P w K mg base CX0 2 gC dC eS (spCover K))(R:eQ GC "_law_cover"):FnOk P w K mg base CX0 3 f fd ["_law_values","_law_heap","_law_telling"] (spFits K):=by
 refine F.okA ["_law_values","_law_heap","_law_telling","_law_rows"] λaa A outer s0 H vs Q E t h nd=>?_;let(d,h,tl,fl,X,kv,hp,cs,Fs,Ps,rs,rfl,I,q):=h;exists _,fc (fz 3 nd (gm GC t R (fg (qv 0) (fg (qv 1) (fg (qv 2) fb)))))
  (ff (fx (r6 (j7 xf (qv 3) gu (fm _)) (ni (j7 gk (gn (t0 rfl) rfl C.sum Gb (jq (vo (iq (qv 3)) (λ_ _ _ _=>m9) (λ_ _ _ _=>(gn (lenK (K:=K) rfl) rfl C.len AJ (fg (qv 0) fb)))) fb)) (gn om rfl C.len AJ (fg (qv 1) fb)) (fm _))))))
 nofun
 refine#[_,fR,_,fR,_,fR,d,h,tl,fl,X,kv,hp,cs,Fs,Ps,rs,fR,I,λrows g D as Y T j p=>?_,λhn Y T=>?_]
 . refine#[_,fR,fR,_,fR,iteB (λ_=>?_) (λc=>by simp at c)];let U:=A3 p;let ac:rows.length<=100:=by
    let h1:=A3 I.res;let h2:=I.fewP;rw[g.all,Ad] at h1
    lia
   let O:rs.filterMap id=rows:=by
    rw[g.all,DH];exact GX
   let Z:rows.flatten.length<=900:=by rw[<- O];exact I.few
   let k:∀l:eZ (eZ fB),(l.map λr=>(r.length:fB)).sum=((l.flatten.length:fC):fB):=λl=>by
    induction l with|nil=>rfl|cons r l ih=>rw[A5,EU,ih,CB,Aj];lia
   let G:∀(l:eZ (eZ fB)) r,r∈l->r.length<=l.flatten.length:=λl=>by
    induction l with
    |nil=>intro r t;cases t
    |cons y l ih =>
     intro r t;rw[CB,Aj];rcases Ak.mp t with rfl|z;lia;let:=ih r z;lia
   exists _,fR,D,fR,#[_,SqL.of j];refine qx (as.map V.ref) (rows.map λr=>V.int (r.length:fB)) kj (SqL.of j) (by rw[Ad];exact B7 (kt (by lia))) (by rw[Ad,Ad,U]) (λi x y hx W N L Q' q'=>?_) λD1 N ab L J=>?_;let(b,hb,rfl):=lk hx;let(r,s,o):=Paired.nth p hb;rw[Ap,s] at W;let S:y=.int (r.length:fB):=(Am W).symm;subst S;let:=q' N (Same.refl _);exists _,fR,b,_,fR,.inl (SqL.of (L _ _ o.1));rw[Ad];exact this
   let m:=T.trans L;refine#[D1,rows.map (λr=>(r.length:fB)),fR,SqL.of (by rw[J,Bu];rfl),λn hn=>?_,by rw[Ad];lia,?_]
   . let(r,B,rfl):=As.mp hn;let:=G rows r B
     lia
   let u:(hv hp).length=cs.length:=by unfold hv;rw[Ad];exact A3 I.cells
   refine#[_,fR,h,_,fR,m _ _ I.heap,fR,q _ N m ?_];rw[k,u,fZ];constructor;intro e;let:=V.int.inj e;exact#[rows,g,by lia];rintro⟨a,v,M⟩;let:rows=a:=a0e (g.all.symm.trans v.all);subst this;rw[M]
 refine#[_,fR,fR,_,fR,iteB (λc=>by simp at c) (λ_=>?_)];exact q eY Y T #[(λc=>by cases c),(λz=>by let(rows,g,_):=z;exact fF #[rows,g] hn)]
end K37
namespace K37.Cv
open L2 Mir
abbrev sCheckV:JA:=top 7
abbrev sNum:JA:=top 8
abbrev sHolds:JA:=top 9
abbrev sMay:JA:=top 10
structure ErrC(K:Aa)(mg:fS->fA IT)(x:fS)(C:IS):Prop where
 name:mg x=eV (.ref C)
 exc:Dx K C [.type "ValueError",.type "Exception",.type "BaseException",.type "object"] "ValueError.__new__"=eX
def dv(m:eZ (fS×fB)):eZ (Key×V):=m.map λp=>(Sum.inr p.1,V.int p.2)
def lkI(m:eZ (fS×fB))(x:fS):fA fB:=(m.find? λp=>decide (p.1=x)).map (·.2)
theorem valV_dv:∀(m:eZ (fS×fB)) (x:fS),valV (dv m) (Sum.inr x)=(lkI m x).map V.int
 |[],x=>rfl
 |p::m,x=>by
  let c:=valV_dv m x;by_cases h:p.1=x
  . let b:valV (dv (p::m)) (Sum.inr x)=eV (.int p.2):=il (p:=((Sum.inr p.1,V.int p.2):Key×V)) (show(Sum.inr p.1:Key)=Sum.inr x by rw[h]);let a:lkI (p::m) x=eV p.2:=by unfold lkI;simp[Ba,h]
    rw[b,a];rfl
  let b:valV (dv (p::m)) (Sum.inr x)=valV (dv m) (Sum.inr x):=iw (p:=((Sum.inr p.1,V.int p.2):Key×V)) (show ¬ (Sum.inr p.1:Key)=Sum.inr x from λz=>h (BR z));let a:lkI (p::m) x=lkI m x:=by unfold lkI;simp[Ba,h]
  rw[b,a,c]
def num(m:eZ (fS×fB))(x:fS):fB:=if x="nil" then 0 else(lkI m x).getD 0
def Has(m:eZ (fS×fB))(x:fS):Prop:=x="nil" \/ (lkI m x).isSome=eX
def lb(m:eZ (fS×fB))(r:fJ):gQ:=decide (decide (num m (r.getD 1 "")=num m (r.getD 2 ""))=decide (r.getD 0 ""="is"))
def mayB(m:eZ (fS×fB))(x:fS)(n:fB):gQ:=decide (x="any") || decide (num m x=n)
inductive spCheckVS(K:Aa)(NV:IS)(vs:eZ V)(H:Hp)(Q:VK)(E:XK):Prop
 |mk (d a:IS)(m:eZ (fS×fB))(fs ps:fG)(h0:vs=[.ref d,.ref a])(h1:H d=eV (.dK (dv m)))(h2:TellAt K H a [fs,ps])(h3:ju fs)(h4:ju ps)(h5:(∀r∈fs++ps,r≠[]))(h6:(∀ss:fJ,ss.Nodup->(∀y∈ss,y∈ii (fs++ps))->ss.length<64))(h7:((∀y∈ii (fs++ps),(lkI m y).isSome=eX)->∀H',Same H H'->Q .non H'))(h8:((∃y∈ii (fs++ps),lkI m y=eW)->∀H',Same H H'->E (.ref NV) eW H')):spCheckVS K NV vs H Q E
def a0l(K:Aa)(NV:IS):Sp:=λvs H Q E=>spCheckVS K NV vs H Q E
inductive spNumS(vs:eZ V)(H:Hp)(Q:VK):Prop
 |mk (d:IS)(m:eZ (fS×fB))(x:fS)(h0:vs=[.ref d,.str x])(h1:H d=eV (.dK (dv m)))(h2:Has m x)(h3:Q (.int (num m x)) H):spNumS vs H Q
def wq:Sp:=λvs H Q _=>spNumS vs H Q
inductive spHoldsS(K:Aa)(vs:eZ V)(H:Hp)(Q:VK):Prop
 |mk (d a:IS)(m:eZ (fS×fB))(k u v:fS)(h0:vs=[.ref d,.ref a])(h1:H d=eV (.dK (dv m)))(h2:RowAt K H a [k,u,v])(h3:Has m u)(h4:Has m v)(h5:Q (.bl (lb m [k,u,v])) H):spHoldsS K vs H Q
def a3m(K:Aa):Sp:=λvs H Q _=>spHoldsS K vs H Q
inductive spMayS(vs:eZ V)(H:Hp)(Q:VK):Prop
 |mk (d:IS)(m:eZ (fS×fB))(x:fS)(n:fB)(h0:vs=[.ref d,.str x,.int n])(h1:H d=eV (.dK (dv m)))(h2:(x="any" \/ Has m x))(h3:Q (.bl (mayB m x n)) H):spMayS vs H Q
def abz:Sp:=λvs H Q _=>spMayS vs H Q
theorem aau:FnScope ["values","telling"] ["values","telling"] (i8 sCheckV):=#[fR,fR,fR,by decide,fR,by decide,by decide]
theorem ok_checkV{K:Aa}(C:Con K mg w)(F:Fun K "check_values" "check_values" sCheckV f fd)(G:FnOk P w K mg base CX0 1 g R eS (a1s K))(t:eQ G "names_of")(M:ErrC K mg "NoValue" NV):
 FnOk P w K mg base (CXE P w base) 2 f fd ["values","telling"] (a0l K NV):=by
 refine F.okEQ aau (λvs H Q E h=>?_) (λS A outer s H vs Q E N h=>?_);let(d,a,m,fs,ps,rfl,_):=h;rfl
 let(d,a,m,fs,ps,rfl,hD,T,hf,hp,I,q,Z,U):=h;let Y:=j4 N;exists _,ff (gg (ld (j5 (gn (vp rfl) rfl C.all Ei (jq (a9q ["name","values"] [0] (iq (gm G N t (fg (qv 1) fb))) (λ_ _ _ _=>m9) (λ_ _ _ _=>a1p Y (qv 0) (qv 1))) fb))))
  (ff (a9y a7i rfl PySem.F.excBase_ValueError rfl M.name M.exc (jq gj fb))) gd)
 nofun
 refine#[_,fR,a,fs,ps,fR,T,hf,hp,I,q,λp zs H1 X J hz u l _=>?_];exists p,fR,#[_,SqL.of hz];let O:=q zs u λy e=>(l y).mp e;refine qx (zs.map V.str) (zs.map λx=>V.bl (lkI m x).isSome) kj (SqL.of hz) (by rw[Ad];exact B7 (kt (by lia))) (by rw[Ad,Ad]) (λi x y j e o r Q' q'=>?_) λD o aa r B=>?_
 . rw[Ap] at j e;cases hzi:zs[i]? with
   |none=>rw[hzi] at j;cases j
   |some z =>
    rw[hzi] at j e;cases j;cases e;exists _,fR,_,fR,d,_,fR,DGet.k (k:=Sum.inr z) (r _ _ (J _ _ hD));let this:Q' (.bl (lkI m z).isSome) o:=q' o (Same.refl _);rw[valV_dv];cases hl:lkI m z with|none=>rw[hl] at this;exact this|some v=>rw[hl] at this;exact this
 refine#[D,zs.map λx=>(lkI m x).isSome,fR,SqL.of (by rw[B,Bu];rfl),_,fR,iteB (λc=>?_) (λc=>?_)]
 . refine#[fL,U ?_ o (J.trans r)];let n:(zs.map λx=>(lkI m x).isSome).all id=eY:=by simpa using c
   rw[List.all_eq_false] at n;let(b,hb,L):=n;let(x,j,rfl):=As.mp hb;exact#[x,(l x).mp j,by simpa using L]
 refine Z (λy e=>?_) o (J.trans r);let n:(zs.map λx=>(lkI m x).isSome).all id=eX:=by simpa using c
 rw[Bo] at n;exact n _ (As.mpr #[y,(l y).mpr e,fR])
theorem ok_num{K:Aa}(F:Fun K "number_of" "number_of" sNum f fd):FnOk P w K mg base CX0 1 f fd ["values","word"] wq:=by
 refine F.okA ["values","word"] λi A outer s H vs Q E l h _=>?_;let(d,m,x,rfl,o,j,q):=h;let p:=j4 l;exists _,ff (fx (nq (fo gk (qv 1) gj (fm _)) dl (ik p (qv 0) (qv 1) (λ_ _=>rfl))))
 nofun
 refine#[_,fR,fR,_,fR,iteB (λc=>?_) (λc=>?_)]
 . let a:x="nil" := by simpa using c
   let e:num m x=0:=by unfold num;rw[fE a]
   rw[e] at q;exact q
 let a:¬ x="nil" := by simpa using c
 let b:=j.resolve_left a;cases hl:lkI m x with
 |none=>rw[hl] at b;cases b
 |some n =>
  let e:num m x=n:=by unfold num;rw[fD a,hl];rfl
  rw[e] at q;let g:=DGet.k (k:=Sum.inr x) o;rw[valV_dv,hl] at g;exact#[_,fR,_,fR,d,.int n,fR,g,q]
theorem ok_holds{K:Aa}(F:Fun K "holds" "holds" sHolds f fd)(G:FnOk P w K mg base CX0 1 g p eS wq)(b:eQ G "number_of"):FnOk P w K mg base CX0 2 f fd ["values","fact"] (a3m K):=by
 refine F.okA ["values","fact","alike"] λr A outer s H vs Q E n h nd=>?_;let(d,a,m,k,u,v,rfl,o,c,j,l,q):=h;exists _,fc (fz 2 nd (j7 gk (gm G n b (fg (qv 0) (ft (fi K (qv 1) dl) fb))) (gm G n b (fg (qv 0) (ft (fi K (qv 1) dl) fb))) (fm _)))
  (ff (fx (j7 gk (qv 2) (j7 gk (fi K (qv 1) dl) gj (fm _)) (fm _))))
 nofun
 exists _,fR,_,fR,a,_,1,.str u,fR,fR,c,fR,d,m,u,fR,o,j;exists _,fR,_,fR,a,_,2,.str v,fR,fR,c,fR,d,m,v,fR,o,l,rfl;exists _,fR,_,fR,a,_,0,.str k,fR,fR,c,fR,fR,rfl;let e:(decide (V.bl (decide (V.int (num m u)=V.int (num m v)))=V.bl (decide (V.str k=V.str "is"))))=lb m [k,u,v]:=by
  unfold lb;simp
 show Q (.bl (decide (V.bl (decide (V.int (num m u)=V.int (num m v)))=V.bl (decide (V.str k=V.str "is"))))) H;rw[e];exact q
theorem ok_may{K:Aa}(F:Fun K "may_be" "may_be" sMay f fd)(G:FnOk P w K mg base CX0 1 g i eS wq)(b:eQ G "number_of"):FnOk P w K mg base CX0 2 f fd ["values","word","number"] abz:=by
 refine F.okA ["values","word","number"] λj A outer s H vs Q E o h _=>?_;let(d,m,x,n,rfl,p,k,q):=h;exists _,ff (fx (a4c (j7 gk (qv 1) gj (fm _)) (ni (j7 gk (gm G o b (fg (qv 0) (fg (qv 1) fb))) (qv 2) (fm _)))))
 nofun
 refine#[_,fR,fR,_,fR,iteB (λc=>?_) (λc=>?_)]
 . let a:x="any" := by simpa using c
   let e:mayB m x n=eX:=by unfold mayB;rw[fU a];rfl
   rw[e] at q;exact q
 let a:¬ x="any" := by simpa using c
 let e:mayB m x n=decide (num m x=n):=by unfold mayB;rw[fT a];rfl
 rw[e] at q;exists _,fR,_,fR,d,m,x,fR,p,k.resolve_left a,_,fR,rfl;let l:decide (V.int (num m x)=V.int n)=decide (num m x=n):=by simp
 show Q (.bl (decide (V.int (num m x)=V.int n))) H;rw[l];exact q
end K37.Cv
namespace K37.Cv
open L2 Mir
abbrev sCellT:JA:=top 11
abbrev sStretchT:JA:=top 12
abbrev sTreeT:JA:=top 13
abbrev sPartT:JA:=top 14
def atc(cs:ig)(x:fB):fA (fB×fB):=(cs.find? λc=>decide (c.1=x)).map (·.2)
inductive HeapAtS(K:Aa)(H:Hp)(h:IS)(cs:ig):Prop
 |mk (hp:eZ (fB×IS))(h0:H h=eV (.dK (hv hp)))(h1:CellsAt K H hp cs):HeapAtS K H h cs
def HeapAt(K:Aa)(H:Hp)(h:IS)(cs:ig):Prop:=HeapAtS K H h cs
theorem HeapAt.same{K:Aa}(x:HeapAt K H h cs)(e:Same H H'):HeapAt K H' h cs:=by
 let(hp,h1,h2):=x;exact#[hp,e _ _ h1,h2.same e]
theorem n8{K:Aa}:∀{hp:eZ (fB×IS)}{cs:ig},CellsAt K H hp cs->∀x:fB,(atc cs x=eW/\valV (hv hp) (Sum.inl x)=eW)\/∃r f s,atc cs x=eV (f,s)/\valV (hv hp) (Sum.inl x)=eV (.ref r)/\SqT K H r [.int f,.int s]
 |_,_,.nil,x=>.inl #[fR,fR]
 |p::hp,c::cs,.cons h t,x=>by
  by_cases e:c.1=x;refine .inr #[p.2,c.2.1,c.2.2,?_,?_,h.2];unfold atc;simp[Ba,e];exact il (p:=((Sum.inl p.1,V.ref p.2):Key×V)) (show(Sum.inl p.1:Key)=Sum.inl x by rw[h.1,e])
  let b:atc (c::cs) x=atc cs x:=by unfold atc;simp[Ba,e]
  let a:valV (hv (p::hp)) (Sum.inl x)=valV (hv hp) (Sum.inl x):=iw (p:=((Sum.inl p.1,V.ref p.2):Key×V)) (show ¬ (Sum.inl p.1:Key)=Sum.inl x from λz=>e (by rw[<- h.1];exact B5 z));rw[b,a];exact n8 t x
theorem atc_mem(h:(atc cs x).isSome=eX):x∈cs.map (·.1):=by
 unfold atc at h;cases hf:cs.find? (λc=>decide (c.1=x)) with
 |none=>rw[hf] at h;cases h
 |some c =>
  let h1:c.1=x:=by simpa using Cy hf
  exact As.mpr #[c,Bj hf,h1]
def Gives(H:Hp)(o:fA (eZ fB))(Q:VK):Prop:=match o with
 |none=>∀H',Same H H'->Q .non H'
 |some ns=>∀l H',Same H H'->H l=eW->H' l=eV (.lst (ns.map V.int))->Q (.ref l) H'
theorem Gives.none(h:Gives H o Q)(e:o=Option.none)(s:Same H H'):Q .non H':=by subst e;exact h H' s
theorem Gives.some(h:Gives H o Q)(e:o=Option.some ns)(s:Same H H')(hn:H l=Option.none)(hl:H' l=Option.some (.lst (ns.map V.int))):Q (.ref l) H':=by subst e;exact h l H' s hn hl
def ox(m:eZ (fS×fB))(cs:ig)(a f s:fS):fA (eZ fB):=match atc cs (num m a) with
 |none=>eW
 |some c=>if mayB m f c.1=eX/\mayB m s c.2=eX then eV [num m a] else eW
def qe(cs:ig)(e:fB):fC->fB->eZ fB->fA (eZ fB)
 |0,_,_=>eW
 |n+1,p,tk=>if p=e then eV tk else if p∈tk then eW else match atc cs p with
  |none=>eW
  |some c=>qe cs e n c.2 (tk++[p])
def mi(cs:ig)(p e:fB):fA (eZ fB):=qe cs e (cs.length+1) p []
def mr(cs:ig):fC->eZ fB->eZ fB->fA (eZ fB)
 |0,_,_=>eW
 |_+1,[],tk=>eV tk
 |n+1,p::co,tk=>if p=0 then mr cs n co tk else if p∈tk then eW else match atc cs p with
  |none=>eW
  |some c=>mr cs n (c.1::c.2::co) (tk++[p])
def qh(cs:ig)(t:fB):fA (eZ fB):=mr cs (2*cs.length+2) [t] []
def dti(tk:eZ fB):eZ (Key×V):=tk.map λk=>(Sum.inl k,V.bl eX)
theorem si:∀(tk:eZ fB) (x:fB),(valV (dti tk) (Sum.inl x)).isSome=decide (x∈tk)
 |[],x=>rfl
 |k::tk,x=>by
  by_cases h:k=x;rw[show valV (dti (k::tk)) (Sum.inl x)=eV (.bl eX) from il (p:=((Sum.inl k,V.bl eX):Key×V)) (show(Sum.inl k:Key)=Sum.inl x by rw[h])];simp[h];rw[show valV (dti (k::tk)) (Sum.inl x)=valV (dti tk) (Sum.inl x) from iw (p:=((Sum.inl k,V.bl eX):Key×V)) (show ¬ (Sum.inl k:Key)=Sum.inl x from λz=>h (B5 z)),si tk x];let:¬ x=k:=λz=>h z.symm;simp[this]
theorem a1r(h:¬ x∈tk):putK (dti tk) (Sum.inl x) (.bl eX)=dti (tk++[x]):=by
 rw[lq];unfold dti;rw[Ax];rfl
 let:=si tk x;rw[fT h] at this;cases hv:valV (dti tk) (Sum.inl x) with|none=>rfl|some v=>rw[hv] at this;cases this
theorem a0s(tk:eZ fB):(dti tk).map (λkv=>kV kv.1)=tk.map V.int:=by unfold dti;rw[Bu];rfl
structure Went(cs:ig)(tk:eZ fB):Prop where
 nd:tk.Nodup
 there:∀k∈tk,(atc cs k).isSome=eX
theorem Went.len(h:Went cs tk):tk.length<=cs.length:=by
 let:=List.Nodup.length_le_of_subset h.nd (l₂:=cs.map (·.1)) λk a=>atc_mem (h.there k a);rw[Ad] at this;exact this
theorem Went.more(h:Went cs tk)(hn:¬ p∈tk)(a:(atc cs p).isSome=eX):Went cs (tk++[p]):=by
 refine#[xm h.nd hn,λk b=>?_];rcases Ab.mp b with h1|h1;exact h.there k h1;simp only[Ak,Aq,gD] at h1;rw[h1];exact a
inductive spCellTS(K:Aa)(vs:eZ V)(H:Hp)(Q:VK):Prop
 |mk (d h p:IS)(m:eZ (fS×fB))(cs:ig)(a f s:fS)(h0:vs=[.ref d,.ref h,.ref p])(h1:H d=eV (.dK (dv m)))(h2:HeapAt K H h cs)(h3:RowAt K H p ["cell",a,f,s])(h4:Has m a)(h5:(f="any" \/ Has m f))(h6:(s="any" \/ Has m s))(h7:Gives H (ox m cs a f s) Q):spCellTS K vs H Q
def a30(K:Aa):Sp:=λvs H Q _=>spCellTS K vs H Q
inductive spStretchTS(K:Aa)(vs:eZ V)(H:Hp)(Q:VK):Prop
 |mk (h:IS)(p e:fB)(cs:ig)(h0:vs=[.ref h,.int p,.int e])(h1:HeapAt K H h cs)(h2:cs.length<=1000)(h3:Gives H (mi cs p e) Q):spStretchTS K vs H Q
def w9(K:Aa):Sp:=λvs H Q _=>spStretchTS K vs H Q
inductive spTreeTS(K:Aa)(vs:eZ V)(H:Hp)(Q:VK):Prop
 |mk (h:IS)(t:fB)(cs:ig)(h0:vs=[.ref h,.int t])(h1:HeapAt K H h cs)(h2:cs.length<=1000)(h3:Gives H (qh cs t) Q):spTreeTS K vs H Q
def a3c(K:Aa):Sp:=λvs H Q _=>spTreeTS K vs H Q
theorem ok_cellT{K:Aa}(F:Fun K "cell_taken" "cell_taken" sCellT f fd)(G:FnOk P w K mg base CX0 1 g N eS wq)(u:eQ G "number_of")(J:FnOk P w K mg base CX0 2 R B eT abz)(b:eQ J "may_be"):FnOk P w K mg base CX0 3 f fd ["values","heap","part"] (a30 K):=by
 refine F.okA ["values","heap","part","place","cell"] λO A outer s0 H vs Q E o h nd=>?_;let(d,h,p,m,cs,a,f,s,rfl,I,T,z,U,X,S,q):=h;let C:=o.mono (j:=1) (by lia);let M:=j4 o;exists _,fc (fz 3 nd (gm G C u (fg (qv 0) (ft (fi K (qv 2) dl) fb))))
  (fc (gg (ku M (qv 3) (qv 1)) (ff (fx gu)) gd)
  (fc (fz 4 nd (ik M (qv 1) (qv 3) (λ_ _=>rfl)))
  (fc (gg (QW.qt (mo (ld (j5 (gm J o b (fg (qv 0) (ft (fi K (qv 2) dl) (ft (fi K (qv 4) dl) fb))))))
   (ls (ld (j5 (gm J o b (fg (qv 0) (ft (fi K (qv 2) dl) (ft (fi K (qv 4) dl) fb))))))))) (ff (fx gu)) gd)
  (ff (fx (ie (fg (qv 3) fb)))))))
 nofun
 let(hp,h1,h2):=id T;exists _,fR,_,fR,p,_,1,.str a,fR,fR,z,fR,d,m,a,fR,I,U;rcases n8 h2 (num m a) with⟨n,D⟩|⟨r,x,y,n,D,L⟩
 . let g:=DGet.k (k:=Sum.inl (num m a)) h1;rw[D] at g;refine#[_,fR,_,fR,h,_,fR,g,_,fR,iteT ?_];exact q.none (by unfold ox;rw[n]) (Same.refl _)
 let g:=DGet.k (k:=Sum.inl (num m a)) h1;rw[D] at g;refine#[_,fR,_,fR,h,_,fR,g,_,fR,iteF ?_];exists _,fR,_,fR,h,.ref r,fR,g;refine#[_,fR,_,fR,p,_,2,.str f,fR,fR,z,fR,_,fR,r,_,0,.int x,fR,fR,L,fR,d,m,f,x,fR,I,X,_,fR,iteB (λc=>?_) (λc=>?_)]
 . let t:mayB m f x=eY:=by simpa using c
   exact q.none (by unfold ox;rw[n];simp[t]) (Same.refl _)
 let t:mayB m f x=eX:=by simpa using c
 refine#[_,fR,_,fR,p,_,3,.str s,fR,fR,z,fR,_,fR,r,_,1,.int y,fR,fR,L,fR,d,m,s,y,fR,I,S,_,fR,iteB (λv=>?_) (λv=>?_)]
 . let e:mayB m s y=eY:=by simpa using v
   exact q.none (by unfold ox;rw[n];simp[e]) (Same.refl _)
 let e:mayB m s y=eX:=by simpa using v
 refine#[_,fR,fL,λl hl=>?_];exact q.some (ns:=[num m a]) (by unfold ox;rw[n];simp[t,e]) (fe hl _) hl ad
def afb(i j k:fC):TT:=fun σ H Q=>∃(p:fB) (td h:IS) (tk:eZ fB) (kvs:eZ (Key×V)),σ[i]?=eV (eV (.int p))/\σ[j]?=eV (eV (.ref td))/\σ[k]?=eV (eV (.ref h))/\H td=eV (.dK (dti tk))/\H h=eV (.dK kvs)/\Q (decide (p∈tk) || (valV kvs (Sum.inl p)).isNone) H
theorem wo(σ:St)(H:Hp)(Q:gQ->Hp->Prop)(h:afb i j k σ H Q):tOr (tB (tDIn (tVar i) (tVar j))) (tB (ui (tVar i) (tVar k))) σ H Q:=by
 let(p,td,h,tk,kvs,h1,h2,h3,a,b,q):=h;refine#[_,h1,_,h2,td,_,fR,DGet.k (k:=Sum.inl p) a,_,fR,iteB (λc=>?_) (λc=>?_)];rw[si] at c;rw[c,ID] at q;exact q
 rw[si] at c;rw[c,Dy] at q;exists _,h1,_,h3,h,_,fR,DGet.k (k:=Sum.inl p) b,_,rfl;cases hv:valV kvs (Sum.inl p) with|none=>rw[hv] at q;exact q|some v=>rw[hv] at q;exact q
theorem ok_stretchT{K:Aa}(C:Con K mg w)(F:Fun K "stretch_taken" "stretch_taken" sStretchT f fd):FnOk P w K mg base CX0 1 f fd ["heap","place","end"] (w9 K):=by
 refine F.okA ["heap","place","end","taken"] λU A outer s0 H vs Q E hr h nd=>?_;let(h,L,en,cs,rfl,R,Y,q):=h;let D:=j4 hr;exists _,fc (fz 3 nd lx)
  (fc (mj A1 (fo kc (qv 1) (qv 2) (fm _))
   (fc (gg (a2e (QW.qt (mo (ub D (qv 1) (qv 3)) (ls (ku D (qv 1) (qv 0))))) wo) (ff (fx gu)) gd)
   (fc (jg D (qv 3) (qv 1) md)
   (ff (fz 1 nd (fi K (ik D (qv 0) (qv 1) (λ_ _=>rfl)) dl))))))
  (ff (fx (iz (lg rfl) rfl C.list Be (fg (qv 3) fb)))))
 nofun
 refine λtd j=>?_;let s1:=fe j (.dK (dti []));refine a1j (fun σ H'=>Same H H'/\Ex2 λp tk=>And4 (H' td=eV (.dK (dti tk))) (Went cs tk) (qe cs en (cs.length+1-tk.length) p tk=mi cs L en) (σ=[rQ h,iQ p,iQ en,rQ td]))
  (λ_ H'=>match H' td with|some (.dK kvs)=>cs.length+1-kvs.length|_=>0) #[s1,L,[],ad,#[Bh,by simp],rfl,rfl] ?_ ?_
 . rintro σ H' ⟨e,p,tk,t,S,s,rfl⟩
   nofun
   let T:=S.len;obtain⟨n,O⟩:∃n,cs.length+1-tk.length=n+1:=#[cs.length-tk.length,by lia]
   rw[O] at s;refine#[_,fR,_,fR,fR,_,fR,iteB (λc=>?_) (λc=>?_)]
   . let M:¬ p=en:=by simpa using c
     let(hp,h1,h2):=R.same e;let b:(if p∈tk then eW else match atc cs p with|none=>eW|some c=>qe cs en n c.2 (tk++[p]))=mi cs L en:=by
      rw[<- s];show _=if p=en then eV tk else _
      rw[fD M]
     refine#[p,td,h,tk,_,fR,fR,fR,t,h1,iteB (λd=>?_) (λd=>?_)]
     . refine q.none ?_ e;rw[<- b];by_cases hm:p∈tk;rw[fE hm]
       . rw[fD hm];rw[fT hm,Dy] at d;rcases n8 h2 p with⟨G,_⟩|⟨r,x,y,_,u,_⟩
         . rw[G]
         rw[u] at d;cases d
     let hm:¬ p∈tk:=λz=>by rw[fU z] at d;cases d
     rw[fT hm,Dy] at d;rcases n8 h2 p with⟨_,u⟩|⟨r,x,y,G,u,X⟩
     . rw[u] at d;cases d
     rw[fD hm,G] at b;let J:h≠td:=by let(_,N,_):=id R;exact gc N j
     exists _,fR,_,fR,td,_,fR,DPut.k (k:=Sum.inl p) t ?_;unfold dti;rw[Ad];exact AI (show tk.length<=1000 by lia) (by decide)
     rw[a1r hm];let g:=DGet.k (H:=upd H' td (.dK (dti (tk++[p])))) (a:=h) (k:=Sum.inl p) (by rw[fh J];exact h1);rw[u] at g;let I:SqT K (upd H' td (.dK (dti (tk++[p])))) r [.int x,.int y]:=by
      rcases X with (z|⟨o,z⟩)|z
      . let:r≠td:=λw=>by rw[w,t] at z;cases z
        exact .inl (.inl (by rw[fh this];exact z))
      . let:r≠td:=λw=>by rw[w,t] at z;cases z
        exact .inl (.inr #[o,by rw[fh this];exact z])
      exact .inr z
     let B:=S.more hm (by rw[G];rfl);let m:=B.len;rw[Aj,Av] at m;exists _,fR,_,fR,h,.ref r,fR,g,r,_,1,.int y,fR,fR,I,fR,#[gz j e _,y,tk++[p],ad,B,?_,fR];rw[<- b,Aj,Av,show cs.length+1-(tk.length+1)=n by lia]
     show(match upd H' td (.dK (dti (tk++[p]))) td with|some (.dK kvs)=>cs.length+1-kvs.length|_=>0)<(match H' td with|some (.dK kvs)=>cs.length+1-kvs.length|_=>0)
     rw[ad,t];show cs.length+1-(dti (tk++[p])).length<cs.length+1-(dti tk).length;unfold dti;rw[Ad,Ad,Aj,Av]
     lia
   let M:p=en:=by simpa using c
   refine#[_,fR,td,_,fR,t,λl hl=>?_];rw[a0s];refine q.some (ns:=tk) ?_ (e.trans (fe hl _)) (e.free hl) ad;rw[<- s];show(if p=en then eV tk else _)=_;rw[fE M]
 rintro σ H' Q1 Q2 hq ⟨v,h1,Z,h2,h3,k,hk,h4⟩;exact#[v,h1,Z,h2,h3,k,hk,hq _ _ h4]
end K37.Cv
namespace K37.Cv
open L2 Mir
theorem a9j{K:Aa}(a:H td=eV (.dK kvs))(b:SqT K H r xs):SqT K (upd H td (.dK kvs')) r xs:=by
 rcases b with (z|⟨o,z⟩)|z
 . let:r≠td:=λw=>by rw[w,a] at z;cases z
   exact .inl (.inl (by rw[fh this];exact z))
 . let:r≠td:=λw=>by rw[w,a] at z;cases z
   exact .inl (.inr #[o,by rw[fh this];exact z])
 exact .inr z
theorem ok_treeT{K:Aa}(C:Con K mg w)(F:Fun K "tree_taken" "tree_taken" sTreeT f fd):FnOk P w K mg base CX0 1 f fd ["heap","top"] (a3c K):=by
 refine F.okA ["heap","top","taken","coming","place"] λah A outer s0 H vs Q E hr h nd=>?_;let(h,N,cs,rfl,hH,ai,q):=h;let O:=j4 hr;exists _,fc (fz 2 nd lx)
  (fc (fz 3 nd (ie (fg (qv 1) fb)))
  (fc (mj A1 (vx (K:=K) (qv 3))
   (fc (fz 4 nd (a6x A8 CN Eh a7e (qv 3)))
   (ff (gg (fo kc (qv 4) dl (fm _))
    (fc (gg (a2e (QW.qt (mo (ub O (qv 4) (qv 2)) (ls (ku O (qv 4) (qv 0))))) wo) (ff (fx gu)) gd)
    (fc (jg O (qv 2) (qv 4) md)
    (ff (ia (jv (K:=K) rfl A8 CJ CK qo (qv 3) (ac6 (ft (fi K (ik O (qv 0) (qv 4) (λ_ _=>rfl)) dl) (ft (fi K (ik O (qv 0) (qv 4) (λ_ _=>rfl)) dl) fb)) fb)))))) gd))))
  (ff (fx (iz (lg rfl) rfl C.list Be (fg (qv 2) fb))))))
 nofun
 refine λtd D=>?_;let s1:=fe D (.dK (dti []));refine#[_,fR,fL,λcl d=>?_];let s2:=fe d (.lst [.int N]);let n:td≠cl:=gc ad d;let j:H cl=eW:=s1.free d;refine a1j (fun σ H'=>Same H H'/\Ex3 λco tk z=>And6 (H' td=eV (.dK (dti tk))) (H' cl=eV (.lst (co.reverse.map V.int))) (Went cs tk) (co.length<=tk.length+1) (mr cs (2*(cs.length-tk.length)+co.length+1) co tk=qh cs N) (σ=[rQ h,iQ N,rQ td,rQ cl,z]))
  (λ_ H'=>match H' td,H' cl with|some (.dK kvs),eV (.lst xs)=>2*(cs.length-kvs.length)+xs.length|_,_=>0) #[s1.trans s2,[N],[],eW,s2 _ _ ad,ad,#[Bh,by simp],by simp,rfl,rfl] ?_ ?_
 . rintro σ H' ⟨e,co,tk,z,hT,hC,hW,ab,s,rfl⟩
   nofun
   let ag:=hW.len;refine#[_,fR,_,.inl #[_,SqL.of hC,fR],iteB (λc=>?_) (λc=>?_)]
   . -- one more place
     cases co with
     |nil=>cases c
     |cons p co =>
      let B:((p::co).reverse.map V.int)[((p::co).reverse.map V.int).length-1]?=eV (.int p):=by
       rw[Bw,Ax];simp
      let ac:((p::co).reverse.map V.int).dropLast=co.reverse.map V.int:=by
       rw[Bw,Ax];simp
      exists _,fR,.inl #[fR,_,SqL.of hC],cl,_,.int p,fR,fR,hC,B;rw[ac];let m:(upd H' cl (.lst (co.reverse.map V.int))) td=eV (.dK (dti tk)):=by rw[fh n];exact hT
      let U:(upd H' cl (.lst (co.reverse.map V.int))) cl=eV (.lst (co.reverse.map V.int)):=ad;let e2:=gz j e (.lst (co.reverse.map V.int));let μ1:(match H' td,H' cl with|some (.dK kvs),eV (.lst xs)=>2*(cs.length-kvs.length)+xs.length|_,_=>0)=2*(cs.length-tk.length)+co.length+1:=by
       rw[hT,hC];show 2*(cs.length-(dti tk).length)+((p::co).reverse.map V.int).length=_;unfold dti;rw[Ad,Ad,CM,Au];lia
      rw[Au,show 2*(cs.length-tk.length)+(co.length+1)+1=(2*(cs.length-tk.length)+co.length+1)+1 by lia] at s;rw[Au] at ab;refine#[_,fR,fR,_,fR,iteB (λc2=>?_) (λc2=>?_)]
      . let J:¬ p=0:=by simpa using c2
        let b:(if p∈tk then eW else match atc cs p with|none=>eW|some c=>mr cs (2*(cs.length-tk.length)+co.length+1) (c.1::c.2::co) (tk++[p]))=qh cs N:=by
         rw[<- s];show _=if p=0 then _ else _
         rw[fD J]
         all_goals rfl
        let(hp,h1,h2):=hH.same e2;refine#[p,td,h,tk,_,fR,fR,fR,m,h1,iteB (λo=>?_) (λo=>?_)]
        . refine q.none ?_ e2;rw[<- b];by_cases hm:p∈tk;rw[fE hm]
          . rw[fD hm];rw[fT hm,Dy] at o;rcases n8 h2 p with⟨e1,_⟩|⟨r,x,y,_,a,_⟩
            . rw[e1]
            rw[a] at o;cases o
        let hm:¬ p∈tk:=λz=>by rw[fU z] at o;cases o
        rw[fT hm,Dy] at o;rcases n8 h2 p with⟨_,a⟩|⟨r,x,y,e1,a,hc⟩
        . rw[a] at o;cases o
        rw[fD hm,e1] at b;let aa:h≠td:=by let(_,L,_):=id hH;exact gc L D
        let ae:h≠cl:=by let(_,L,_):=id hH;exact gc L j
        exists _,fR,_,fR,td,_,fR,DPut.k (k:=Sum.inl p) m ?_;unfold dti;rw[Ad];exact AI (show tk.length<=1000 by lia) (by decide)
        rw[a1r hm];let e3:=gz D e2 (.dK (dti (tk++[p])));let M:=a9j (kvs':=dti (tk++[p])) m hc;let S:(upd (upd H' cl (.lst (co.reverse.map V.int))) td (.dK (dti (tk++[p])))) h=eV (.dK (hv hp)):=by rw[fh aa];exact h1
        let G:(upd (upd H' cl (.lst (co.reverse.map V.int))) td (.dK (dti (tk++[p])))) td=eV (.dK (dti (tk++[p]))):=ad;let u:(upd (upd H' cl (.lst (co.reverse.map V.int))) td (.dK (dti (tk++[p])))) cl=eV (.lst (co.reverse.map V.int)):=by rw[fh (AE n)];exact U
        generalize (upd (upd H' cl (.lst (co.reverse.map V.int))) td (.dK (dti (tk++[p]))))=H3 at e3 M S G u |-;let g:=DGet.k (k:=Sum.inl p) S;rw[a] at g;let X:=hW.more hm (by rw[e1];rfl);let I:=X.len;rw[Aj,Av] at I;refine#[_,fR,.inl #[fR,_,SqL.of u],_,fR,_,fR,h,.ref r,fR,g,r,_,1,.int y,fR,fR,M,fR,_,fR,_,fR,h,.ref r,fR,g,r,_,0,.int x,fR,fR,M,fR,fK,λY T=>?_];let Z:=fe T (.lst [.int y,.int x]);let af:cl≠Y:=gc u T;exists cl,Y,_,_,fR,fR,Z _ _ u,ad,?_,#[gz j (e3.trans Z) _,x::y::co,tk++[p],_,?_,?_,X,?_,?_,fR];rw[Ad,CM];exact AA (show co.length+2<=2000 by lia) (by decide);rw[fh n];exact Z _ _ G;rw[ad,Bw,Bw,Ax,Ax,A4];rfl;rw[Aj,Av,Au,Au];lia
        . rw[<- b,Aj,Av,Au,Au]
          congr 1
          lia
        rw[μ1];show(match (upd (upd H3 Y _) cl _) td,(upd (upd H3 Y _) cl _) cl with|some (.dK kvs),eV (.lst xs)=>2*(cs.length-kvs.length)+xs.length|_,_=>0)<_;rw[ad,fh n,Z _ _ G];show 2*(cs.length-(dti (tk++[p])).length)+(co.reverse.map V.int++[V.int y,V.int x]).length<_;unfold dti;rw[Ad,Aj,Aj,Ad,CM,Av];simp only[Au,DE]
        lia
      let J:p=0:=by simpa using c2
      exists #[e2,co,tk,_,m,U,hW,by lia,?_,fR]
      . rw[<- s];show _=if p=0 then _ else _
        rw[fE J]
      rw[μ1];show(match (upd H' cl _) td,(upd H' cl _) cl with|some (.dK kvs),eV (.lst xs)=>2*(cs.length-kvs.length)+xs.length|_,_=>0)<_;rw[ad,m];show 2*(cs.length-(dti tk).length)+(co.reverse.map V.int).length<_;unfold dti;rw[Ad,Ad,CM]
      lia
   let R:co=[]:=by
    cases co with
    |nil=>rfl
    |cons p co =>
     let c':(!((p::co).reverse.map V.int).isEmpty)=eY:=c;rw[Bw,Ax] at c';simp at c'
   subst R;refine#[_,fR,td,_,fR,hT,λl hl=>?_];rw[a0s];exact q.some (ns:=tk) s.symm (e.trans (fe hl _)) (e.free hl) ad
 rintro σ H' Q1 Q2 hq ⟨v,h1,k,hk,h4⟩;exact#[v,h1,k,hk,hq _ _ h4]
def ac1(m:eZ (fS×fB))(r:fJ):Prop:=(∃a b c:fS,r=[("cell":fS),a,b,c]/\Has m a/\(b="any" \/ Has m b)/\(c="any" \/ Has m c))\/(∃a b:fS,r=[("stretch":fS),a,b]/\Has m a/\Has m b)\/(∃a:fS,r=[("tree":fS),a]/\Has m a)
def mw(m:eZ (fS×fB))(cs:ig)(r:fJ):fA (eZ fB) :=
 if r.getD 0 ""="cell" then ox m cs (r.getD 1 "") (r.getD 2 "") (r.getD 3 "") else if r.getD 0 ""="stretch" then mi cs (num m (r.getD 1 "")) (num m (r.getD 2 "")) else qh cs (num m (r.getD 1 ""))
inductive spPartTS(K:Aa)(vs:eZ V)(H:Hp)(Q:VK):Prop
 |mk (d h p:IS)(m:eZ (fS×fB))(cs:ig)(r:fJ)(h0:vs=[.ref d,.ref h,.ref p])(h1:H d=eV (.dK (dv m)))(h2:HeapAt K H h cs)(h3:cs.length<=1000)(h4:RowAt K H p r)(h5:ac1 m r)(h6:Gives H (mw m cs r) Q):spPartTS K vs H Q
def a2n(K:Aa):Sp:=λvs H Q _=>spPartTS K vs H Q
theorem ok_partT{K:Aa}(F:Fun K "part_taken" "part_taken" sPartT f fd)(G:FnOk P w K mg base CX0 1 g I eS wq)(l:eQ G "number_of")(O:FnOk P w K mg base CX0 3 g1 x eT (a30 K))(s:eQ O "cell_taken")(L:FnOk P w K mg base CX0 1 N B ["heap","place","end"] (w9 K))(o:Cal K mg "stretch_taken" N B ["heap","place","end"])(S:FnOk P w K mg base CX0 1 R y ["heap","top"] (a3c K))(n:Cal K mg "tree_taken" R y ["heap","top"]):FnOk P w K mg base CX0 4 f fd ["values","heap","part"] (a2n K):=by
 refine F.okA ["values","heap","part"] λJ A outer s0 H vs Q E D h _=>?_;let(d,h,p,m,cs,r,rfl,v,C,t,k,T,q):=h;let i:=D.mono (j:=1) (by lia);exists _,fc (gg (fo gk (fi K (qv 2) dl) gj (fm _)) (ff (fx (gm O D s (fg (qv 0) (fg (qv 1) (fg (qv 2) fb)))))) gd)
  (fc (gg (fo gk (fi K (qv 2) dl) gj (fm _)) (ff (fx (gm L i o (fg (qv 1)
   (i7 (gm G i l (fg (qv 0) (ft (fi K (qv 2) dl) fb))) (i7 (gm G i l (fg (qv 0) (ft (fi K (qv 2) dl) fb))) fb)))))) gd)
  (ff (fx (gm S i n (fg (qv 1) (i7 (gm G i l (fg (qv 0) (ft (fi K (qv 2) dl) fb))) fb))))))
 nofun
 rcases T with⟨a,b,c,rfl,u,z,M⟩|⟨a,b,rfl,u,z⟩|⟨a,rfl,u⟩
 . refine#[_,fR,p,_,0,.str "cell",fR,fR,k,fR,fR,_,fR,iteB (λ_=>?_) (λc=>by simp at c)];exact#[_,fR,_,fR,_,fR,d,h,p,m,cs,a,b,c,fR,v,C,k,u,z,M,q]
 . refine#[_,fR,p,_,0,.str "stretch",fR,fR,k,fR,fR,_,fR,iteB (λc=>fF c (by decide)) (λ_=>?_)];refine#[_,fR,p,_,0,.str "stretch",fR,fR,k,fR,fR,_,fR,iteB (λ_=>?_) (λc=>by simp at c)];let e:mw m cs ["stretch",a,b]=mi cs (num m a) (num m b):=by
    show(if("stretch":fS)="cell" then _ else if("stretch":fS)="stretch" then mi cs (num m a) (num m b) else _)=_;rw[fD (by decide),fE rfl]
   rw[e] at q;exact#[_,fR,_,fR,_,fR,p,_,1,.str a,fR,fR,k,fR,d,m,a,fR,v,u,_,fR,_,fR,p,_,2,.str b,fR,fR,k,fR,d,m,b,fR,v,z,h,_,_,cs,fR,C,t,q]
 refine#[_,fR,p,_,0,.str "tree",fR,fR,k,fR,fR,_,fR,iteB (λc=>fF c (by decide)) (λ_=>?_)];refine#[_,fR,p,_,0,.str "tree",fR,fR,k,fR,fR,_,fR,iteB (λc=>fF c (by decide)) (λ_=>?_)];let e:mw m cs ["tree",a]=qh cs (num m a):=by
  show(if("tree":fS)="cell" then _ else if("tree":fS)="stretch" then _ else qh cs (num m a))=_;rw[fD (by decide),fD (by decide)]
 rw[e] at q;exact#[_,fR,_,fR,_,fR,p,_,1,.str a,fR,fR,k,fR,d,m,a,fR,v,u,h,_,cs,fR,C,t,q]
end K37.Cv
namespace K37.Cv
open L2 Mir
abbrev sCover:JA:=top 15
abbrev sFits:JA:=top 16
theorem yn:∀(n:fC) (p:fB) (tk ns:eZ fB),Went cs tk->qe cs e n p tk=eV ns->ns.length<=cs.length
 |0,_,_,_,_,h=>by cases h
 |n+1,p,tk,ns,hW,h=>by
  let h':(if p=e then eV tk else if p∈tk then eW else match atc cs p with|none=>eW|some c=>qe cs e n c.2 (tk++[p]))=eV ns:=h;by_cases h1:p=e;rw[fE h1] at h';cases h';exact hW.len
  rw[fD h1] at h';by_cases h2:p∈tk;rw[fE h2] at h';cases h'
  rw[fD h2] at h';cases ha:atc cs p with|none=>rw[ha] at h';cases h'|some c=>rw[ha] at h';exact yn n c.2 _ ns (hW.more h2 (by rw[ha];rfl)) h'
theorem sx:∀(n:fC) (co tk ns:eZ fB),Went cs tk->mr cs n co tk=eV ns->ns.length<=cs.length
 |0,_,_,_,_,h=>by cases h
 |n+1,[],tk,ns,hW,h=>by
  let h':eV tk=eV ns:=h;cases h';exact hW.len
 |n+1,p::co,tk,ns,hW,h=>by
  let h':(if p=0 then mr cs n co tk else if p∈tk then eW else match atc cs p with|none=>eW|some c=>mr cs n (c.1::c.2::co) (tk++[p]))=eV ns:=h;by_cases h1:p=0;rw[fE h1] at h';exact sx n co tk ns hW h'
  rw[fD h1] at h';by_cases h2:p∈tk;rw[fE h2] at h';cases h'
  rw[fD h2] at h';cases ha:atc cs p with|none=>rw[ha] at h';cases h'|some c=>rw[ha] at h';exact sx n _ _ ns (hW.more h2 (by rw[ha];rfl)) h'
theorem a0o(cs:ig):Went cs []:=#[Bh,by simp]
theorem yw(h:mw m cs r=eV ns):ns.length<=cs.length:=by
 unfold mw at h;split at h;unfold ox at h;split at h;cases h;rename_i c a;split at h;cases h;let:=atc_mem (cs:=cs) (x:=num m (r.getD 1 "")) (by rw[a];rfl);let hl:0<(cs.map (·.1)).length:=CZ this;rw[Ad] at hl;exact hl;cases h
 split at h;exact yn _ _ _ _ (a0o cs) h;exact sx _ _ _ _ (a0o cs) h
def kf{α:Type}:eZ (fA α)->fA (eZ α)
 |[]=>eV []
 |none::_=>eW
 |some a::r=>(kf r).map (a :: ·)
theorem u0:∀{os:eZ (fA α)},(∀o∈os,o≠eW)->∃as,kf os=eV as/\os=as.map eV
 |[],_=>#[[],fR,fR]
 |none::r,h=>fF rfl (h eW (Af ..))
 |some a::r,h=>by
  let(as,h1,h2):=u0 (os:=r) λo b=>h o (Ag _ b);exact#[a::as,by show(kf r).map (a :: ·)=_;rw[h1];rfl,by rw[h2];rfl]
theorem uc:∀{os:eZ (fA α)},eW∈os->kf os=eW
 |[],h=>by simp at h
 |none::r,_=>rfl
 |some a::r,h=>by
  let:eW∈r:=by
   rcases Ak.mp h with z|z;cases z;exact z
  show(kf r).map (a :: ·)=eW;rw[uc this];rfl
def mn(m:eZ (fS×fB))(cs:ig)(fs ps:fG):fA (eZ (eZ fB)) :=
 if fs.all (lb m)=eX then match kf (ps.map (mw m cs)) with
  |none=>eW
  |some rows=>if rows.flatten.Nodup then eV rows else eW
 else eW
def GivesR(H:Hp)(o:fA (eZ (eZ fB)))(Q:VK):Prop:=match o with
 |none=>∀H',Same H H'->Q .non H'
 |some rows=>∀l las H',Same H H'->H l=eW->(∀a∈las,H a=eW/\a≠l)->H' l=eV (.lst (las.map V.ref))->IZ (λa r=>H' a=eV (.lst (r.map V.int))) las rows->Q (.ref l) H'
theorem GivesR.none(h:GivesR H o Q)(e:o=Option.none)(s:Same H H'):Q .non H':=by subst e;exact h H' s
theorem GivesR.some(h:GivesR H o Q)(e:o=Option.some rows)(s:Same H H')(hn:H l=Option.none)(b:∀a∈las,H a=Option.none/\a≠l)(hl:H' l=Option.some (.lst (las.map V.ref)))(hp:IZ (λa r=>H' a=Option.some (.lst (r.map V.int))) las rows):Q (.ref l) H':=by subst e;exact h l las H' s hn b hl hp
def aga(m:eZ (fS×fB))(r:fJ):Prop:=∃k u v:fS,r=[k,u,v]/\Has m u/\Has m v
structure TellR(m:eZ (fS×fB))(fs ps:fG):Prop where
 sF:ju fs
 sP:ju ps
 few:∀ss:fJ,ss.Nodup->(∀y∈ss,y∈ii (fs++ps))->ss.length<64
 has:∀y∈ii (fs++ps),(lkI m y).isSome=eX
 facts:∀r∈fs,aga m r
 parts:∀r∈ps,ac1 m r
 six:ps.length<=6
theorem TellR.ne(h:TellR m fs ps):∀r∈fs++ps,r≠[]:=λr d z=>by
 rcases Ab.mp d with h1|h1;let(k,u,v,e,_):=h.facts r h1;rw[e] at z;cases z;rcases h.parts r h1 with⟨a,b,c,e,_⟩|⟨a,b,e,_⟩|⟨a,e,_⟩<;>(rw[e] at z;cases z)
inductive spCoverS(K:Aa)(vs:eZ V)(H:Hp)(Q:VK):Prop
 |mk (d h t m cs fs ps)(h0:vs=[.ref d,.ref h,.ref t])(h1:H d=eV (.dK (dv m)))(h2:HeapAt K H h cs)(h3:cs.length<=600)(h4:TellAt K H t [fs,ps])(h5:TellR m fs ps)(h6:GivesR H (mn m cs fs ps) Q):spCoverS K vs H Q
def spCover(K:Aa):Sp:=λvs H Q _=>spCoverS K vs H Q
def fitsB(m:eZ (fS×fB))(cs:ig)(fs ps:fG):gQ:=match mn m cs fs ps with
 |none=>eY
 |some rows=>decide ((rows.map (·.length)).sum=cs.length)
inductive spFitsS(K:Aa)(vs:eZ V)(H:Hp)(Q:VK):Prop
 |mk (d h t m cs fs ps)(h0:vs=[.ref d,.ref h,.ref t])(h1:H d=eV (.dK (dv m)))(h2:HeapAt K H h cs)(h3:cs.length<=600)(h4:TellAt K H t [fs,ps])(h5:TellR m fs ps)(h6:∀H',Same H H'->Q (.bl (fitsB m cs fs ps)) H'):spFitsS K vs H Q
def spFits(K:Aa):Sp:=λvs H Q _=>spFitsS K vs H Q
def abe(H1:Hp)(D:IS)(H:Hp)(y:V)(o:fA (eZ fB)):Prop:=(o=eW/\y=.non)\/∃a ns,o=eV ns/\y=.ref a/\a≠D/\H1 a=eW/\H a=eV (.lst (ns.map V.int))
def dOpt(o:fA (eZ fB)):PyData:=match o with
 |none=>.none
 |some ns=>.list (ns.map .int)
theorem qy{K:Aa}:∀ns:eZ fB,DpAll K H (ns.map V.int) (ns.map PyData.int)
 |[]=>.nil
 |x::r=>.cons (.int x) (qy r)
theorem a0v{K:Aa}:∀{ys:eZ V}{os:eZ (fA (eZ fB))},IZ (λy o=>abe b D H y o) ys os->DpAll K H ys (os.map dOpt)
 |_,_,.nil=>.nil
 |_,_,.cons h t=>by
  refine .cons ?_ (a0v t);rcases h with⟨rfl,rfl⟩|⟨a,ns,rfl,rfl,_,_,h⟩
  . exact .non
  exact .lst (SqL.of h) (qy ns)
theorem pf:∀ns:eZ fB,Bg (ns.map PyData.int)=eX
 |[]=>by simp only[BF,Bg]
 |x::r=>by simp only[A5,Bg,BK,IB,pf r]
theorem ml:∀ns:eZ fB,Bq (ns.map PyData.int)<=0
 |[]=>by simp only[BF,Bq];exact An _
 |x::r=>by simp only[A5,Bq,Ca];exact Gr.mpr #[An _,ml r]
theorem qj(ns:eZ fB):EqOk (.list (ns.map PyData.int)):=by
 constructor;simp only[BK];exact pf ns;let:=ml ns;simp only[Ca];lia
theorem y6:EqOk .none:=#[by simp only[BK],by simp only[Ca];lia]
theorem a0p(o:fA (eZ fB)):EqOk (dOpt o)/\(dOpt o).depth<=1:=by
 cases o with|none=>exact#[y6,by simp only[dOpt,Ca];lia]|some ns=>exact#[qj ns,by let:=ml ns;simp only[dOpt,Ca];lia]
theorem a6c(os:eZ (fA (eZ fB))):EqOk (.list (os.map dOpt)):=by
 let h1:∀os:eZ (fA (eZ fB)),Bg (os.map dOpt)=eX:=λos=>by
  induction os with|nil=>simp only[BF,Bg]|cons o r ih=>simp only[A5,Bg,Bv];exact#[(a0p o).1.1,ih]
 let h2:∀os:eZ (fA (eZ fB)),Bq (os.map dOpt)<=1:=λos=>by
  induction os with|nil=>simp only[BF,Bq];lia|cons o r ih=>simp only[A5,Bq];exact Gr.mpr #[(a0p o).2,ih]
 constructor;simp only[BK];exact h1 os;let:=h2 os;simp only[Ca];lia
theorem a0f(os:eZ (fA (eZ fB))):((os.map dOpt).any λe=>Et e .none)=decide (eW∈os):=by
 rw[Dj,Bm,AV,fZ];constructor
 . rintro⟨o,a,h⟩;cases o with|none=>exact a|some ns=>exact fF (show Et (.list (ns.map .int)) .none=eX from h) (by simp[Et])
 intro h;exact#[eW,h,fR]
end K37.Cv
namespace K37.Cv
open L2 Mir
theorem vb:∀{rows:eZ (eZ fB)},(∀r∈rows,r.length<=B)->rows.flatten.length<=rows.length*B
 |[],_=>by simp
 |r::rows,h=>by
  let h1:=vb (rows:=rows) λx a=>h x (Ag _ a);let h2:=h r (Af ..);rw[CB,Aj,Au,IF]
  lia
theorem lenK{K:Aa}(a:X.K=K):kb X (.builtin "len") (λxs H Q=>∃p ys,xs=[.ref p]/\(SqL K H p ys\/SqT K H p ys)/\Q (.int ys.length) H):=by subst a;exact i6
theorem scCover:FnScope ["values","heap","telling","rows","taken","row"] ["values","heap","telling"] (i8 sCover):=#[fR,fR,fR,by decide,fR,by decide,by decide]
theorem ok_cover{K:Aa}(C:Con K mg w)(F:Fun K "cover" "cover" sCover f fd)(GC:FnOk P w K mg base (CXE P w base) 2 gC dC eS (a0l K NV))(cC:eQ GC "check_values")(GO:FnOk P w K mg base CX0 2 gO dO eT (a3m K))(cO:eQ GO "holds")(GP:FnOk P w K mg base CX0 4 gP dP ["values","heap","part"] (a2n K))(cP:Cal K mg "part_taken" gP dP ["values","heap","part"]):FnOk P w K mg base (CXE P w base) 5 f fd ["values","heap","telling"] (spCover K):=by
 refine F.okEQ scCover (λvs H Q E h=>?_) (λax A outer s0 H vs Q E hr h=>?_);let(d,h,t,m,cs,fs,ps,rfl,_):=h;rfl
 let(d,h,t,m,cs,fs,ps,rfl,hD,hH,ap,ht,N,q):=h;let nd:=scCover.nd;let aa:=hr.mono (j:=2) (by lia);let hu:=AI (D9 (show 32<=64 by decide) _) hr.units;exists _,fc (ia (oz GC aa rfl cC.name cC.keep cC.bind .nil (a3j rfl) (fg (qv 0) (fg (qv 2) fb))))
  (fc (gg (ld (j5 (gn (vp rfl) rfl C.all Ei (jq (nr ["fact","values"] [0] (iq (fi K (qv 2) dl)) (λ_ _ _ _=>m9)
   (λ_ _ _ _=>gm GO aa cO (fg (qv 1) (fg (qv 0) fb)))) fb)))) (ff (fx gu)) gd)
  (fc (pp ["part","values","heap"] [0,1] (i:=3) nd rfl (Or.inl rfl) (iq (fi K (qv 2) dl)) (λ_ _ _ _=>m9)
   (λ_ _ _ _=>gm GP hr cP (fg (qv 1) (fg (qv 2) (fg (qv 0) fb)))))
  (fc (gg (fo (af6 hu) gu (qv 3) (by with_unfolding_all rfl)) (ff (fx gu)) gd)
  (fc (fz 4 nd (ie fb))
  (fc (af7 (im A1 rfl (iq (qv 3)) (ip 5 nd)
   (ff (ia (jv (K:=K) rfl A8 CJ CK qo (qv 4) (fg (qv 5) fb))))))
  (ff (fx (nq (fo gk (gn zl rfl C.len AJ (i7 (iz (zh rfl) rfl C.set Ee (fg (qv 4) fb)) fb)) (gn i6 rfl C.len AJ (fg (qv 4) fb)) (fm _)) (qv 3) gu))))))))
 nofun
 refine#[_,fR,_,fR,d,t,m,fs,ps,fR,hD,ht,N.sF,N.sP,N.ne,N.few,λ_ H1 e1=>?_,λz=>by
  let(y,hy,hn):=z;let:=N.has y hy;rw[hn] at this;cases this]
 let(as,t1,t2):=ht.same e1;cases t2 with
 | @cons fa _ _ _ t3 t4 =>
 cases t4 with
 | @cons pa _ _ _ t5 t6 =>
 cases t6;let(ae,f1,f2):=t3;let(ac,p1,p2):=t5;let fl:ae.length=fs.length:=A3 f2;let pl:ac.length=ps.length:=A3 p2;let lf:=N.sF.1;let lp:=N.six;exists _,fR,t,_,0,.ref fa,fR,fR,t1,fR,fa,fR,#[_,SqL.of f1];refine qx (ae.map V.ref) (fs.map λr=>V.bl (lb m r)) kj (SqL.of f1) (by rw[Ad];exact B7 (kt (by lia))) (by rw[Ad,Ad,fl]) (λi x y hx hy H2 U Q' q'=>?_) λD1 H2 az U am=>?_;let(b,hb,rfl):=lk hx;let(r,n,g):=Paired.nth f2 hb;rw[Ap,n] at hy;let an:y=.bl (lb m r):=(Am hy).symm;subst an;let(k,u,v,rfl,h1,h2):=N.facts r (Ar n);exact#[_,fR,_,fR,d,b,m,k,u,v,fR,U _ _ (e1 _ _ hD),g.same U,h1,h2,q' H2 (Same.refl _)]
 refine#[D1,fs.map (lb m),fR,SqL.of (by rw[am,Bu];rfl),_,fR,iteB (λc=>?_) (λc=>?_)]
 . let c':¬ fs.all (lb m)=eX:=λz=>by
    rw[E2] at c;let z':(fs.all (id∘lb m))=eX:=z;rw[z'] at c;cases c
   exact q.none (by unfold mn;rw[fD c']) (e1.trans U)
 let cF:fs.all (lb m)=eX:=by
  rw[E2] at c;let:(!(fs.all (id∘lb m)))=eY:=c;simpa using this
 let J:=e1.trans U;exists _,fR,t,_,1,.ref pa,fR,fR,U.seqT t1,fR,pa,fR,#[_,SqL.of (U _ _ p1)];refine aaf (ac.map V.ref) ps (abe H2) (mw m cs) kj (SqL.of (U _ _ p1)) (by rw[Ad];lia) (by rw[Ad];lia) (λD H H' y o h k=>?_) (λD i x r hx R H3 e3 aj Q' q'=>?_) λD2 H3 ys ak e3 G pr=>?_;rcases h with h|⟨a,ns,h1,h2,h3,h4,h5⟩;exact .inl h;exact .inr #[a,ns,h1,h2,h3,h4,k _ _ h5 h3]
 . let(b,hb,rfl):=lk hx;let M:RowAt K H1 b r:=Paired.at2 p2 hb R;exists _,fR,_,fR,_,fR,d,h,b,m,cs,r,fR,e3 _ _ (J _ _ hD),hH.same (J.trans e3),by lia,M.same (U.trans e3),N.parts r (Ar R);cases ho:mw m cs r with|none=>exact λH' e'=>q' _ H' e' (.inl #[ho,fR])|some ns=>exact λl H' e' hl al=>q' _ H' e' (.inr #[l,ns,ho,fR,λz=>aj (z ▸ hl),e3.free hl,al])
 let ag:=J.trans e3;generalize hos:ps.map (mw m cs)=os at pr;let ab:os.length=ps.length:=by rw[<- hos,Ad]
 refine#[_,fR,D2,ys,os.map dOpt,.none,fR,SqL.of G,a0v pr,.non,a6c os,y6,_,fR,iteB (λc2=>?_) (λc2=>?_)];rw[a0f,fZ] at c2;exact q.none (by unfold mn;rw[fE cF,hos,uc c2]) ag
 rw[a0f,decide_eq_false_iff_not] at c2;let(rows,M,O):=u0 (os:=os) λo ho z=>c2 (z ▸ ho);let L:mn m cs fs ps=if rows.flatten.Nodup then eV rows else eW:=by unfold mn;rw[fE cF,hos,M]
 let af:rows.length=ps.length:=by rw[<- ab,O,Ad]
 let s:∀r∈rows,r.length<=600:=λr R=>by
  let:eV r∈os:=by rw[O];exact As.mpr #[r,R,fR]
  rw[<- hos] at this;let(r0,_,he):=As.mp this;exact AA (yw he) ap
 obtain⟨las,ar,T⟩:∃las:eZ IS,ys=las.map V.ref/\IZ (λa r=>(a≠D2/\H2 a=eW)/\H3 a=eV (.lst (r.map V.int))) las rows:=by
  rw[O] at pr;clear O M hos L af s c2 ab G;induction rows generalizing ys with
  |nil=>cases pr;exact#[[],fR,.nil]
  |cons r rows ih =>
   rw[A5] at pr;cases pr with
   |cons h t =>
    let(las,h1,h2):=ih _ t;rcases h with⟨z,_⟩|⟨a,ns,z,rfl,h3,h4,h5⟩
    . cases z
    cases z;exact#[a::las,by rw[h1];rfl,.cons #[#[h3,h4],h5] h2]
 subst ar;let au:las.length=rows.length:=A3 T;let Y:=vb s;let aw:rows.flatten.length<=3600:=AA Y (by rw[af];exact Du 600 lp);refine#[AF _,λtk X=>?_];let s4:=fe X (.lst []);let ay:D2≠tk:=gc G X;exists _,fR,D2,fR,#[_,SqL.of (s4 _ _ G)];refine jj (xs:=las.map V.ref) (λi σ H'=>Same H3 H'/\∃z5,H' tk=eV (.lst ((rows.take i).flatten.map V.int))/\σ=[rQ d,rQ h,rQ t,rQ D2,rQ tk,z5])
  #[s4,eW,ad,fR] (λi σ H' _ p=>SqL.of (p.1 _ _ G)) ?_ ?_
 . rintro i v σ H' hi ⟨e,z5,I,rfl⟩
   nofun
   let(b,hb,rfl):=lk hi;let(r,n,g):=Paired.nth T hb;let ao:rows.take (i+1)=rows.take i++[r]:=by rw[AL,n];rfl
   let aq:(rows.take i).flatten.length+r.length<=3600+600:=by
    let h1:=s r (Ar n);let h2:=vb (rows:=rows.take i) (B:=600) λx hx=>s x (Bp hx);let h3:(rows.take i).length<=6:=by rw[AG];lia
    let h4:(rows.take i).length*600<=6*600:=Du 600 h3
    lia
   exists _,fR,.inl #[fR,_,SqL.of I],_,fR,tk,b,_,_,fR,fR,I,e _ _ g.2,?_;rw[Ad,Ad];exact AA aq (by decide)
   refine#[λc u qc=>?_,_,?_,fR];rw[fh (gc qc X)];exact e _ _ qc;rw[ad,ao,BO,Ax];simp
 rintro σ H' ⟨e,z5,I,rfl⟩;rw[Ad,au,AW] at I;refine#[_,fR,tk,_,fR,SqL.of I,(show _<4096 by lia),λS SS hS=>?_];let s5:=fe hS (.set SS (metN rows.flatten));let av:=ad8 rows.flatten;exists S,SS,_,fR,ad,by lia,_,fR,tk,_,fR,.inl (SqL.of (s5 _ _ I)),fR,_,rfl;let uH:=ag.trans (e.trans s5);refine iteB (λc3=>?_) (λc3=>?_)
 . let Z:metN rows.flatten=rows.flatten.length:=by
    let:=fV c3;rw[Ad] at this;let:=V.int.inj this
    lia
   let ah:=(a14 _).mp Z;let ai:H D2=eW:=(J).free ak;refine#[_,fR,q.some (by rw[L,fE ah]) uH ai (las:=las) (λa ha=>?_) (s5 _ _ (e _ _ G)) (Paired.mapP T λa r z=>s5 _ _ (e _ _ z.2))];let(i,hi,rfl):=GD ha;let(r,_,g):=Paired.nth T (Ah hi);exact#[J.free g.1.2,g.1.1]
 let Z:¬ rows.flatten.Nodup:=λz=>by
  let:=fW c3;rw[Ad,(a14 _).mpr z] at this;exact this rfl
 exact q.none (by rw[L,fD Z]) uH
theorem scFits:FnScope ["values","heap","telling","rows"] ["values","heap","telling"] (i8 sFits):=#[fR,fR,fR,by decide,fR,by decide,by decide]
theorem ok_fits{K:Aa}(C:Con K mg w)(F:Fun K "fits" "fits" sFits f fd)(Y:FnOk P w K mg base (CXE P w base) 5 gC dC eS (spCover K))(L:eQ Y "cover"):FnOk P w K mg base (CXE P w base) 6 f fd ["values","heap","telling"] (spFits K):=by
 refine F.okEQ scFits (λvs H Q E h=>?_) (λZ A outer s0 H vs Q E hr h=>?_);let(d,h,t,m,cs,fs,ps,rfl,_):=h;rfl
 let(d,h,t,m,cs,fs,ps,rfl,hD,U,k,ht,X,q):=h;let nd:=scFits.nd;exists _,fc (fz 3 nd (oz Y hr rfl L.name L.keep L.bind .nil (a3j rfl) (fg (qv 0) (fg (qv 1) (fg (qv 2) fb)))))
  (ff (fx (r6 (j7 xf (qv 3) gu (fm _)) (ni (j7 gk (gn (t0 rfl) rfl C.sum Gb (jq (vo (iq (qv 3)) (λ_ _ _ _=>m9) (λ_ _ _ _=>gn (lenK (K:=K) rfl) rfl C.len AJ (fg (qv 0) fb))) fb))
   (gn om rfl C.len AJ (fg (qv 1) fb)) (fm _))))))
 nofun
 exists _,fR,_,fR,_,fR,d,h,t,m,cs,fs,ps,fR,hD,U,k,ht,X;cases hc:mn m cs fs ps with
 |none =>
  intro H' z;let e:fitsB m cs fs ps=eY:=by unfold fitsB;rw[hc]
  refine#[_,fR,fR,_,fR,iteF ?_];let:=q H' z;rw[e] at this;exact this
 |some rows =>
  intro l las H' z ae ab hl hp;let e:fitsB m cs fs ps=decide ((rows.map (·.length)).sum=cs.length):=by unfold fitsB;rw[hc]
  let R:las.length=rows.length:=A3 hp;let g:rows.length<=6/\∀r∈rows,r.length<=600:=by
   unfold mn at hc;split at hc
   . split at hc;cases hc
     . rename_i ac G;split at hc
       . cases hc;let key:∀(os:eZ (fA (eZ fB))) (as:eZ (eZ fB)),kf os=eV as->as.length=os.length/\∀a∈as,eV a∈os:=by
          intro os;induction os with
          |nil=>intro as h;cases h;simp
          |cons o r ih =>
           intro as h;cases o with
           |none=>cases h
           |some a =>
            let h':(kf r).map (a :: ·)=eV as:=h;cases c:kf r with
            |none=>rw[c] at h';cases h'
            |some bs =>
             rw[c] at h';cases h';let(i1,i2):=ih bs c;refine#[by rw[Au,Au,i1],λx M=>?_];rcases Ak.mp M with rfl|N;exact Af ..;exact Ag _ (i2 x N)
         let(k1,k2):=key _ _ G;refine#[by rw[k1,Ad];exact X.six,λr c=>?_];let(r0,_,he):=As.mp (k2 r c);exact AA (yw he) k
       cases hc
   cases hc
  refine#[_,fR,fR,_,fR,iteT ?_];exists _,fR,l,fR,#[_,SqL.of hl];refine qx (las.map V.ref) (rows.map λr=>V.int (r.length:fB)) kj (SqL.of hl) (by rw[Ad];exact B7 (kt (by lia))) (by rw[Ad,Ad,R]) (λi x y M T B v Q' q'=>?_) λD1 B aa v J=>?_;let(b,hb,rfl):=lk M;let(r,u,s):=Paired.nth hp hb;rw[Ap,u] at T;let O:y=.int (r.length:fB):=(Am T).symm;subst O;let:=q' B (Same.refl _);exists _,fR,b,_,fR,.inl (SqL.of (v _ _ s));rw[Ad];exact this
  let I:=(U.same z).same v;let(j,h1,h2):=id I;let S:j.length=cs.length:=A3 h2;refine#[D1,rows.map (λr=>(r.length:fB)),fR,SqL.of (by rw[J,Bu];rfl),λn hn=>?_,by rw[Ad];lia,?_]
  . let(r,c,rfl):=As.mp hn;let:=g.2 r c
    lia
  exists _,fR,h,_,fR,h1,rfl;let p:∀l:eZ (eZ fB),(l.map λr=>(r.length:fB)).sum=(((l.map (·.length)).sum:fC):fB):=λl=>by
   induction l with|nil=>rfl|cons r l ih=>rw[A5,EU,ih,A5,EU];lia
  let D:(hv j).length=cs.length:=by unfold hv;rw[Ad,S]
  let e3:decide (V.int ((rows.map λr=>(r.length:fB)).sum)=V.int ((hv j).length:fB))=decide ((rows.map (·.length)).sum=cs.length):=by
   rw[p,D];simp only[V.int.injEq]
   congr 1
   apply propext
   lia
  show Q (.bl (decide (V.int ((rows.map λr=>(r.length:fB)).sum)=V.int ((hv j).length:fB)))) B;rw[e3,<- e];exact q B (z.trans v)
end K37.Cv
namespace K37
open L2 Mir Kn
def s0F(kv:eZ (Key×V))(bs:fB)(am:fA (fC×fS))(j:fC):fB:=match am with
 |none=>bs+2*(j:fB)+1
 |some p=>if p.1=j then vI kv p.2 else bs+2*(j:fB)+1
theorem tm(kv:eZ (Key×V))(bs:fB)(am:fA (fC×fS))(j:fC):s0F kv bs am j=bs+2*(j:fB)+1\/∃e,am=eV (j,e)/\s0F kv bs am j=vI kv e:=by
 cases am with
 |none=>exact .inl rfl
 |some p =>
  let(k,e):=p;by_cases c:k=j;exact .inr #[e,by rw[c],fE c];exact .inl (fD c)
def jm(kv:eZ (Key×V))(bs:fB)(am:fA (fC×fS))(P:fG)(j:fC):ig:=ky kv bs (s0F kv bs am j) (bs+2*(j:fB)+2) (P.getD j [])
def iu(kv:eZ (Key×V))(bs:fB)(am:fA (fC×fS))(P:fG)(ns:eZ fC):ig:=(ns.map (jm kv bs am P)).flatten
theorem a4j(kv:eZ (Key×V))(bs:fB)(am:fA (fC×fS))(P:fG)(ns:eZ fC)(j:fC):iu kv bs am P (ns++[j])=iu kv bs am P ns++jm kv bs am P j:=by
 unfold iu;rw[Ax,BO];simp
theorem sv(h:a∈(ky kv bs s0 s1 r).map (·.1)):a=vI kv (place r)\/a=s0\/a=s1:=by
 unfold ky at h;split at h;exact .inl (Ae.mp h)
 split at h;rcases Ak.mp h with z|z;exact .inl z;exact .inr (.inl (Ae.mp z))
 rcases Ak.mp h with z|z;exact .inl z
 rcases Ak.mp z with y|y;exact .inr (.inl y);exact .inr (.inr (Ae.mp y))
theorem a09(a:vI kv (place r)≠s0)(h1:vI kv (place r)≠s1)(h2:s0≠s1):((ky kv bs s0 s1 r).map (·.1)).Nodup:=by
 unfold ky;split;simp
 split;simp[a];simp[a,h1,h2]
theorem a55(kv:eZ (Key×V))(bs s0 s1:fB)(r:fJ):(ky kv bs s0 s1 r).length<=3:=by
 unfold ky;split;exact(show 1<=3 by decide);split<;>simp
structure Places(kv:eZ (Key×V))(bs:fB)(am:fA (fC×fS))(P:fG)(ns:eZ fC):Prop where
 am:∀k e,am=eV (k,e)->vI kv e<bs/\∀j∈ns,vI kv (place (P.getD j []))≠vI kv e
 nd:ns.Nodup
 lt:∀j∈ns,vI kv (place (P.getD j []))<bs
 ne:∀i∈ns,∀j∈ns,i≠j->vI kv (place (P.getD i []))≠vI kv (place (P.getD j []))
theorem lz:∀{ns:eZ fC},Places kv bs am P ns->((iu kv bs am P ns).map (·.1)).Nodup
 |[],_=>.nil
 |j::ns,h=>by
  let e:iu kv bs am P (j::ns)=jm kv bs am P j++iu kv bs am P ns:=rfl;let g:=Af (a:=j) (l:=ns);let(hd,hn):=AK.mp h.nd;let hl:=h.lt j g;rw[e,Ax,AN];let n:=tm kv bs am j;let s:s0F kv bs am j≠vI kv (place (P.getD j []))/\(s0F kv bs am j=bs+2*(j:fB)+1\/s0F kv bs am j<bs):=by
   rcases n with z|⟨e,h1,z⟩;rw[z];exact#[by lia,.inl rfl];let(o,p):=h.am _ _ h1;rw[z];exact#[λy=>p j g y.symm,.inr o]
  refine#[a09 (by lia) (by lia) (by lia),lz #[λk e r=>#[(h.am k e r).1,λi hi=>(h.am k e r).2 i (Ag _ hi)],hn,λi hi=>h.lt i (Ag _ hi),λi hi k w=>h.ne i (Ag _ hi) k (Ag _ w)],λa x b v=>?_];let(c,u,rfl):=As.mp v;let(l,q,m):=Bz.mp u;let(i,hi,rfl):=As.mp q;let d:i≠j:=λz=>hd (z ▸ hi);let h1:=sv x;let h2:=sv (As.mpr #[c,m,fR]);let h3:=h.ne j g i (Ag _ hi) (AE d);let C:=h.lt i (Ag _ hi);let B:s0F kv bs am i≠vI kv (place (P.getD j []))/\(s0F kv bs am i=bs+2*(i:fB)+1\/(s0F kv bs am i<bs/\s0F kv bs am j≠s0F kv bs am i)):=by
   rcases tm kv bs am i with z|⟨e,h1,z⟩;rw[z];exact#[by lia,.inl rfl]
   let(o,p):=h.am _ _ h1;refine#[by rw[z];exact λy=>p j g y.symm,.inr #[by rw[z];exact o,λy=>?_]];rcases n with t|⟨A,f,t⟩;lia;rw[h1] at f;exact d (fX EI (Am f))
  let D:s0F kv bs am j≠vI kv (place (P.getD i [])):=by
   rcases n with z|⟨e,h1,z⟩;rw[z];lia;rw[z];exact λy=>(h.am _ _ h1).2 i (Ag _ hi) y.symm
  lia
theorem u3(kv:eZ (Key×V))(bs:fB)(am:fA (fC×fS))(P:fG):∀ns:eZ fC,(iu kv bs am P ns).length<=3*ns.length
 |[]=>An _
 |j::ns=>by
  let e:iu kv bs am P (j::ns)=jm kv bs am P j++iu kv bs am P ns:=rfl;let h1:=u3 kv bs am P ns;let h2:=a55 kv bs (s0F kv bs am j) (bs+2*(j:fB)+2) (P.getD j []);rw[e,Aj,Au];unfold jm
  lia
theorem CellsAt.keys(h:CellsAt K H hp cs):hp.map (·.1)=cs.map (·.1):=by
 unfold CellsAt at h;induction h with|nil=>rfl|cons h t ih=>rw[A5,A5,h.1,ih]
theorem a9l(h:((hp++a).map (·.1)).Nodup):jd (hv hp) (hv a)=hv (hp++a):=by
 rw[oq];unfold hv;rw[Ax]
 let e:((hv hp++hv a).map (·.1))=((hp++a).map (·.1)).map (Sum.inl:fB->Key):=by
  unfold hv;rw[<- Ax,Bu,Bu];rfl
 rw[e];exact HA.mpr (HB (λb z=>b (B5 z)) h)
theorem ada(hl:H l=eV (.lst xs))(h:SqT K H b zs):SqT K (upd H l (.lst ys)) b zs:=by
 rcases h with (h|⟨o,h⟩)|h
 . exact .inl (.inl (by rw[fh (λz=>by rw[z,hl] at h;cases h)];exact h))
 . exact .inl (.inr #[o,by rw[fh (λz=>by rw[z,hl] at h;cases h)];exact h])
 exact .inr h
theorem adw{R:Hp->Prop}(d:Hp)(a:Hp->Prop)(f:b=eY->a d)(e:b=eX->(∀H',a H'->R H')->A)(c:∀H',a H'->R H'):if b=eX then A else R d:=by
 cases b with|true=>rw[fE rfl];exact e rfl c|false=>rw[fD Aw];exact c _ (f rfl)
theorem a06(k:fC)(e:fS)(j:fC):valV (amK (eV (k,e))) (Sum.inl ((j:fC):fB))=if k=j then eV (.str e) else eW:=by
 unfold amK valV;by_cases c:k=j;rw[fE c,c];simp
 rw[fD c];simp
 lia
theorem qq(hl:H l=eV (.dK kv))(h:SqT K H b zs):SqT K (upd H l (.dK a)) b zs:=by
 rcases h with (h|⟨o,h⟩)|h
 . exact .inl (.inl (by rw[fh (λz=>by rw[z,hl] at h;cases h)];exact h))
 . exact .inl (.inr #[o,by rw[fh (λz=>by rw[z,hl] at h;cases h)];exact h])
 exact .inr h
inductive spStateOfS(K:Aa)(C:IS)(vs:eZ V)(H:Hp)(Q:VK):Prop
 |mk (p nl da pl hd un fu D:IS)(F P:fG)(L:fH)(ns:eZ fC)(zs:fJ)(am:fA (fC×fS))(h0:vs=[.ref p,.ref nl,.ref da])(h1:KnS K C H p pl hd un fu F P L)(h2:NeAt C H p pl hd un fu D ns)(h3:ns.length<=15)(h4:H nl=eV (.lst (zs.map V.str)))(h5:zs.length<=200)(h6:H da=eV (.dK (amK am)))(h7:(∀k e,am=eV (k,e)->Dom zs e/\∀j∈ns,fq F (place (P.getD j []))≠fq F e))(h8:(∀r∈P,PartRow r))(h9:(∀j∈ns,j<P.length))(h10:ns.Nodup)(h11:(∀j∈ns,Dom zs (place (P.getD j []))/\((P.getD j []).getD 0 ""="stretch" -> Dom zs ((P.getD j []).getD 2 ""))))(h12:(∀i∈ns,∀j∈ns,i≠j->fq F (place (P.getD i []))≠fq F (place (P.getD j []))))(h13:∀t d h kv hp H',Same H H'->H d=eW->H h=eW->d≠h->H' t=eV (.tup [.ref d,.ref h])->NumOk (fq F) zs kv->kv=(numS (fq F) zs).1->H' d=eV (.dK (kg kv (Sum.inr "nil")))->H' h=eV (.dK (hv hp))->CellsAt K H' hp (iu kv ((zs.length:fB)+1) am P ns)->Q (.ref t) H'):spStateOfS K C vs H Q
def yk(K:Aa)(C:IS):Sp:=λvs H Q _=>spStateOfS K C vs H Q
theorem a4t(Cn:Con K mg w)(T:Txt K mg C fI)(F:Fun K "state_of" "state_of" a0g f fd)(GN:FnOk P w K mg base CX0 2 gN dN eS (wp C))(cN:eQ GN "numbered")(GO:FnOk P w K mg base CX0 1 gO dO eT (ym K))(cO:eQ GO "cells_of"):FnOk P w K mg base CX0 3 f fd ["knowledge","names","amid"] (yk K C):=by
 refine F.okA ["knowledge","names","amid","values","beside","heap","number","spares"] λaX A outer s0 H vs Q E hr h nd=>?_;let(p,nl,da,pl,hd,un,fu,D,Fs,B,L,ns,zs,am,rfl,hK,hN,aW,af,hz,hA,J,aL,aH,ah,m,an,q):=h;let X:=j4 hr;let aU:=hr.mono (j:=1) (by lia);exists _,fc (fz 3 nd (gm GN hr cN (fg (qv 0) (fg (qv 1) fb))))
  (fc (fz 4 nd (fj i3 (gn i6 rfl Cn.len AJ (fg (qv 1) fb)) dl))
  (fc (fz 5 nd lx)
  (fc (im A1 rfl (iq (gh (K:=K) rfl (qv 0))) (ip 6 nd) (fc (fz 7 nd (ie (j9 (fj i3 (fj i3 (qv 4) (fj li dl (qv 6))) dl) (j9 (fj i3 (fj i3 (qv 4) (fj li dl (qv 6))) dl) fb))))
  (fc (gg (ub X (qv 6) (qv 2)) (ff (a11 (ik X (qv 3) (ik X (qv 2) (qv 6) (λ_ _=>rfl)) (λ_ _=>rfl)) (a78 (qv 7) dl a0c))) gd)
  (ff (ia (acs (qv 5) (gm GO aU cO (ft (gr K (gh (K:=K) rfl (qv 0)) (qv 6)) (fg (qv 3) (fg (qv 7) (fg (qv 4) fb)))))))))))
  (fc (ia (a9e (qv 3) gj))
  (ff (fx (ij (fg (qv 3) (fg (qv 5) fb)))))))))
 nofun
 let((hm,uk,aA,aB,hU),Z,aZ):=id hK;refine#[_,fR,_,fR,p,nl,pl,hd,un,fu,hm,uk,zs,fq Fs,fR,aA,aB,af,hz,λd kv H1 ap e1 ak hok aR=>?_];let aT:((zs.map V.str).length:fB)=(zs.length:fB):=by rw[Ad]
 exists _,fR,nl,_,fR,.inl (SqL.of (e1 _ _ af)),_,_,fR,rfl;rw[aT];obtain⟨bs,ai⟩:∃bs:fB,(zs.length:fB)+1=bs:=#[_,fR]
 rw[ai] at q;show jh 4 (V.int ((zs.length:fB)+1)) _ H1 _;rw[ai];intro h hh;let aa:d≠h:=gc ak hh;let az:H h=eW:=e1.free hh;let s2:=fe hh (.dK []);let e2:=e1.trans s2;let au:(upd H1 h (.dK [])) d=eV (.dK kv):=s2 _ _ ak;let ar:(upd H1 h (.dK [])) h=eV (.dK (hv [])):=ad;generalize upd H1 h (.dK [])=H2 at e2 au ar |-;let aN:IntsAt kv:=λx=>by
  cases hz:valV kv (Sum.inr x) with
  |none=>exact .inl rfl
  |some v =>
   let(y,h1,h2):=hok.no (Sum.inr x) (by rw[hz];rfl);cases BR h1;let:=hok.at_ x h2;unfold vI;rw[<- hz];exact .inr this
 let ac:∀x,Dom zs x->vI kv x<bs:=λx R=>by let:=(hok.lt x R).2;unfold vI;lia
 let aq:∀x y,Dom zs x->Dom zs y->fq Fs x≠fq Fs y->vI kv x≠vI kv y:=λx y R W hh z=>hh (by
  let h1:=hok.at_ _ R;let h2:=hok.at_ _ W;refine(hok.inj _ _ R W).mp ?_;rw[h1,h2];unfold vI at z;rw[z])
 let r:Places kv bs am B ns:=#[λk e he=>#[ac _ (J k e he).1,λj G=>aq _ _ (m j G).1 (J k e he).1 ((J k e he).2 j G)],ah,λj G=>ac _ (m j G).1,λi hi j G aG z=>an i hi j G aG (by
  let h1:=hok.at_ _ (m i hi).1;let h2:=hok.at_ _ (m j G).1;refine(hok.inj _ _ (m i hi).1 (m j G).1).mp ?_;rw[h1,h2];unfold vI at z;rw[z])]
 let((dx,fs,h1,h2,aK),hD):=id hN;exists _,fR,p,C,dx,fs,.ref D,fR,e2 _ _ h1,T.cl,T.nE,aK,D,fR,#[_,SqL.of (e2 _ _ hD)];refine jj (xs:=ns.map natV) (λi σ I=>Same H I/\I d=eV (.dK kv)/\∃hp z6 z7,I h=eV (.dK (hv hp))/\CellsAt K I hp (iu kv bs am B (ns.take i))/\σ=[rQ p,rQ nl,rQ da,rQ d,iQ bs,rQ h,z6,z7])
  #[e2,au,[],eW,eW,ar,.nil,fR] (λi σ I _ pv=>SqL.of (pv.1 _ _ hD)) ?_ ?_
 . rintro i x σ I R ⟨e3,u,hp,z6,z7,U,O,rfl⟩
   nofun
   let ab:i<ns.length:=by let:=(Ao.mp R).1;rw[Ad] at this;exact this
   obtain rfl:x=.int ((ns[i]:fC):fB):=by
    rw[Ap,Ah ab] at R;exact(Am R).symm
   let M:=AH ab;let ax:=aH _ M;let hs:B[ns[i]]?=eV B[ns[i]]:=Ah ax;let hg:B.getD ns[i] []=B[ns[i]]:=by rw[A7,hs];rfl
   let et:ns.take (i+1)=ns.take i++[ns[i]]:=by rw[AL,Ah ab];rfl
   refine#[_,fR,_,fR,_,_,fR,fR,.inl (by decide),_,_,fR,fR,_,_,fR,fR,_,fR,_,fR,_,_,fR,fR,.inl (by decide),_,_,fR,fR,_,_,fR,fR,fK,λS al=>?_];let s4:=fe al (.lst [.int (bs+2*((ns[i]:fC):fB)+1),.int (bs+2*((ns[i]:fC):fB)+2)]);let s:=e3.trans s4;let l:=s4 _ _ u;let g:=s4 _ _ U;let n:(upd I S (.lst [.int (bs+2*((ns[i]:fC):fB)+1),.int (bs+2*((ns[i]:fC):fB)+2)])) S=eV (.lst [.int (bs+2*((ns[i]:fC):fB)+1),.int (bs+2*((ns[i]:fC):fB)+2)]):=ad;let o:=O.same s4;clear u U O;generalize upd I S (.lst [.int (bs+2*((ns[i]:fC):fB)+1),.int (bs+2*((ns[i]:fC):fB)+2)])=H4 at s l g n o |-;let gA:=DGet.k (k:=Sum.inl ((ns[i]:fC):fB)) (s _ _ hA);let ay:∀x,Dom zs x->(valV kv (Sum.inr x)).isSome=eX:=λx R=>by rw[hok.at_ x R];rfl
   let aV:h≠S:=jb g n (λz=>nomatch z);let hds:d≠S:=jb l n (λz=>nomatch z);let av:H S=eW:=e3.free al;refine#[_,fR,_,fR,da,_,fR,gA,_,fR,adw H4 (λH'=>Same H H'/\H' d=eV (.dK kv)/\H' h=eV (.dK (hv hp))/\H' S=eV (.lst [.int (s0F kv bs am ns[i]),.int (bs+2*((ns[i]:fC):fB)+2)])/\CellsAt K H' hp (iu kv bs am B (ns.take i))) (λhn=>?_) (λW hR=>?_) λaF aC=>?_];refine#[s,l,g,?_,o];rcases tm kv bs am ns[i] with z|⟨e,h1,_⟩;rw[z];exact n;rw[h1,a06,fE rfl] at hn;cases hn
   . rcases tm kv bs am ns[i] with z|⟨e,h1,z⟩
     . exfalso;cases am with
       |none=>cases W
       |some pe =>
        let(k,e):=pe;rw[a06] at W;by_cases c:k=ns[i]
        . let z2:s0F kv bs (eV (k,e)) ns[i]=vI kv e:=fE c;let z3:=ac _ (J k e rfl).1
          lia
        rw[fD c] at W;cases W
     let(de,_):=J _ _ h1;let aw:=gA;rw[h1,a06,fE rfl] at aw;let gV:=DGet.k (k:=Sum.inr e) l;rw[hok.at_ e de] at gV;exists _,fR,_,fR,_,fR,da,_,fR,aw,d,_,fR,gV,_,fR,S,_,0,0,fR,fR,n,rfl;refine hR _ #[gz av s _,by rw[fh hds];exact l,by rw[fh aV];exact g,by rw[z];exact ad,?_];exact Paired.mapP o λa c y=>#[y.1,ada n y.2]
   clear l g n o s;let(s,l,g,n,o):=aC;clear gA;revert s l g n o;generalize aF=H4;intro s l g n o;let aO:=tm kv bs am ns[i];let aY:s0F kv bs am ns[i]≠vI kv (place B[ns[i]])/\(s0F kv bs am ns[i]=bs+2*((ns[i]:fC):fB)+1\/s0F kv bs am ns[i]<bs):=by
    let aD:=r.lt _ M;rw[hg] at aD;rcases aO with z|⟨e,h1,z⟩;rw[z];exact#[by lia,.inl rfl];let(a1,a2):=r.am _ _ h1;let:=a2 _ M;rw[hg] at this;rw[z];exact#[λy=>this y.symm,.inr a1]
   let(a0,b5,ag,aj,aS):=ma (Z.same s) hs;let Y:=m _ M;let ao:=r.lt _ M;rw[hg] at Y ao;refine#[_,fR,h,fR,.inl #[_,.inl g],_,fR,p,C,dx,fs,.ref pl,fR,s _ _ h1,T.cl,T.nP,h2.parts,_,fR,pl,_,_,.ref b5,fR,fR,SqL.of ag,aj,_,fR,_,fR,_,fR,b5,d,S,bs,_,_,_,kv,fR,aS,aL _ (AH ax),l,aN,n,ay _ Y.1,(λz=>ay _ (Y.2 z)),(by lia),(by lia),(by lia),λD5 hq H5 aI e5 aQ aJ=>?_];let aE:jm kv bs am B ns[i]=ky kv bs (s0F kv bs am ns[i]) (bs+2*((ns[i]:fC):fB)+2) B[ns[i]]:=by unfold jm;rw[hg]
   let N:CellsAt K H5 (hp++hq) (iu kv bs am B (ns.take (i+1))):=by
    rw[et,a4j,aE];exact Paired.app (o.same e5) aJ
   let ae:((hp++hq).map (·.1)).Nodup:=by
    rw[N.keys];exact lz #[λk e he=>#[(r.am k e he).1,λj G=>(r.am k e he).2 j (Bp G)],CW (Fb _ _) ah,λj G=>r.lt j (Bp G),λa ha b hb=>r.ne a (Bp ha) b (Bp hb)]
   let aP:(hv hp).length+(hv hq).length<=1000:=by
    let z1:=A3 N;let z2:=u3 kv bs am B (ns.take (i+1));let z3:(ns.take (i+1)).length<=15:=by rw[AG];lia
    unfold hv;rw[Ad,Ad];rw[Aj] at z1
    lia
   let aM:h≠D5:=gc g aI;exists D5,_,_,fR,e5 _ _ g,aQ,aM,B7 (jf aP);rw[a9l ae];refine#[gz az (s.trans e5) _,by rw[fh aa];exact e5 _ _ l,_,_,_,ad,?_,fR];exact Paired.mapP N λa c z=>#[z.1,qq (e5 _ _ g) z.2]
 rintro σ I ⟨e3,u,hp,z6,z7,U,O,rfl⟩;rw[Ad,AW] at O;exists _,fR,d,fR,.inl #[_,.inl u],kv,Sum.inr "nil",.int 0,u,fR,hok.nil;refine#[_,fR,_,fR,fK,λt ht=>?_];let g:(upd I d (.dK (kg kv (Sum.inr "nil")))) h=eV (.dK (hv hp)):=by rw[fh (AE aa)];exact U
 let s:Same H (upd I d (.dK (kg kv (Sum.inr "nil")))):=gz ap e3 _;let o:CellsAt K (upd I d (.dK (kg kv (Sum.inr "nil")))) hp (iu kv bs am B ns):=Paired.mapP O λa c z=>#[z.1,qq u z.2]
 let s5:=fe ht (.tup [.ref d,.ref h]);exact q t d h kv hp _ (s.trans s5) ap az aa ad hok aR (s5 _ _ ad) (s5 _ _ g) (o.same s5)
end K37
namespace Fol
open L2 Kn
structure Says(M:Mm)(v:fS->fB)(ne:eZ fC)(F:fG):Prop where
 is_:∀a b,[("is":fS),a,b]∈F->v a=v b
 not_:∀a b,[("not":fS),a,b]∈F->v a≠v b
 emp:∀(j:fC) r,M.P[j]?=eV r->¬ j∈ne->¬ r.getD 0 ""="cell" /\ v (place r)=v (end2 r)
def exN(M:Mm)(v:fS->fB)(ne:eZ fC)(s0 s1:fC->fB)(j:fC):eZ fB:=if j∈ne then exD v s0 s1 j (M.P.getD j []) else []
theorem rc(a:j∈ne)(b:M.P[j]?=eV r):exN M v ne s0 s1 j=exD v s0 s1 j r:=by unfold exN;rw[fE a,some_getD b]
theorem xh(a:¬ j∈ne):exN M v ne s0 s1 j=[]:=by unfold exN;rw[fD a]
theorem a7j(x:fS):x="any" \/ v x=val v bs x:=by
 unfold val;by_cases c:x="any";exact .inl c;rw[fD c];exact .inr rfl
theorem aao(b:v "nil"=0)(c:PartD Dm r)(h:¬ r.getD 0 ""="cell" /\ v (place r)=v (end2 r)):Tk v m r []:=by
 cases c with
 |cell=>exact fF rfl h.1
 | @str a e _ _ =>
  let:v a=v e:=by let:=h.2;rw[end2_str] at this;exact this
  exact .str (this ▸ .nil)
 | @tree a _ =>
  let:v a=0:=by let:=h.2;rw[a7h,b] at this;exact this
  exact .tree (this ▸ .nil)
theorem Ex.fits(X:Ex M v m bs ne s0 s1 Dm)(Y:Says M v ne F):Fits v m F M.P (exN M v ne s0 s1):=by
 refine#[Y.is_,Y.not_,λj r d=>?_,λi j r s d k hn x h z=>?_,λx c h=>?_]
 . let hd:=X.row j r d;by_cases b:j∈ne
   . rw[rc b d];let g0:=X.g0 j;let g1:=X.g1 j;cases hd with
     | @cell a f s ha hf k=>exact .cell (X.cell j b a f s d) (a7j f) (a7j s)
     | @str a e ha he =>
      let(h1,h2):=X.str j b a e d;let t:=X.rng _ ha;let u:=X.rng _ he;let l:v a≠v e:=by let:=X.emp j b _ d (by show ¬ ("stretch":fS)="cell";decide);rw[end2_str] at this;exact this
      refine .str (.cons l h1 (λz=>?_) (.cons (by lia) h2 Aq .nil));let:=Ae.mp z
      lia
     | @tree a ha =>
      let(h1,h2,h3):=X.tree j b a d;let t:=X.rng _ ha;let p:v a≠0:=X.pl0 j b _ d;let g:∀{y:fB},bs<y->m y=eV (0,0)->Tr m y [y]:=λ{y} n hm=>.node (r1:=[]) (r2:=[]) (by let:=X.rng _ X.dnil;lia) hm .nil .nil Aq Aq (λz hz=>by cases hz);let:=Tr.node p h1 (g g0 h2) (g g1 h3) (λz=>by let:=Ae.mp z;lia) (λz=>by let:=Ae.mp z;lia) (λy n z=>by let q:=Ae.mp n;let o:=Ae.mp z;exact X.i2 j j (q.symm.trans o));exact .tree this
   rw[xh b];exact aao X.nil hd (Y.emp j r d b)
 . by_cases hi:i∈ne;by_cases b:j∈ne;rw[rc hi d] at h;rw[rc b k] at z;exact X.disj hi d b k hn x h z;rw[xh b] at z;cases z
   rw[xh hi] at h;cases h
 let(j,b,r,d,hm):=X.only x c h;exact#[j,r,d,by rw[rc b d];exact hm]
theorem Ex.fits2(X:Ex M v m bs ne s0 s1 Dm)(Y:Says M v ne F)(u:d∈ne)(f:M.P[d]?=eV [("stretch":fS),p,q])(Q:Dm e)(h1:v q≠v e)(h2:v p≠v e)(h3:v e≠0)(U:M.num e=eW)(C:Moved v m w bs (s0 d) p q e):Fits v w F M.P (λj=>if j=d then [v p,v e] else exN M v ne s0 s1 j):=by
 let B:=X.fits Y;let hn:m (v e)=eW:=by
  cases hz:m (v e) with
  |none=>rfl
  |some c =>
   let(_,_,_,_,_,z):=X.at_ Q hz;rw[U] at z;cases z
 let g0:=X.g0 d;let W:=X.rng _ Q;let R:=X.row d _ f;obtain⟨dp,dq⟩:Dm p/\Dm q:=by
  generalize k:[("stretch":fS),p,q]=r at R;cases R with|cell=>cases k|str a b=>cases k;exact#[a,b]|tree=>cases k
 let Z:=X.rng _ dp;let I:v p≠v q:=by let:=X.emp d u _ f (by show ¬ ("stretch":fS)="cell";decide);rw[end2_str] at this;exact this
 let off:∀(j:fC) r,M.P[j]?=eV r->j≠d->∀x∈exN M v ne s0 s1 j,x≠v p/\x≠v e/\x≠s0 d:=λj r k S x l=>by
  let ap:∀y∈exD v s0 s1 d [("stretch":fS),p,q],x≠y:=λy o z=>B.apart j d r _ k f S x l (by rw[rc u f,z];exact o);refine#[ap _ (Af ..),λz=>?_,ap _ (Ag _ (Af ..))];let(c,N):=(B.tk j r k).dom x l;rw[z,hn] at N;cases N
 let A:∀{e x:fB} {row:eZ fB},Seg m e x row->(∀y∈row,w y=m y)->Seg w e x row:=λ{e x row} h=>by
  induction h with|nil=>intro _;exact .nil|cons a b c _ ih=>intro t;exact .cons a ((t _ (Af ..)).trans b) c (ih λy o=>t y (Ag _ o))
 let H:∀{x:fB} {row:eZ fB},Tr m x row->(∀y∈row,w y=m y)->Tr w x row:=λ{x row} h=>by
  induction h with|nil=>intro _;exact .nil|node a b _ _ n1 n2 n3 i1 i2=>intro t;exact .node a ((t _ (Af ..)).trans b) (i1 λy o=>t y (Ag _ (Ab.mpr (.inl o)))) (i2 λy o=>t y (Ag _ (Ab.mpr (.inr o)))) n1 n2 n3
 refine#[Y.is_,Y.not_,λj r k=>?_,λi j r s k t D x l z=>?_,λx c l=>?_]
 . by_cases n:j=d;subst n;rw[fE rfl];rw[f] at k;cases k;exact .str (.cons I C.h1 (λz=>h2 (Ae.mp z)) (.cons (AE h1) C.h2 Aq .nil))
   . rw[fD n];let T:=B.tk j r k;let sm:∀y∈exN M v ne s0 s1 j,w y=m y:=λy o=>by
      let(a,b,c):=off j r k n y o;exact C.same y a b c
     generalize exN M v ne s0 s1 j=row at T sm;cases T with|cell g gf gs=>exact .cell ((sm _ (Af ..)).trans g) gf gs|str g=>exact .str (A g sm)|tree g=>exact .tree (H g sm)
 . by_cases G:i=d;let n:j≠d:=λz=>D (G.trans z.symm);rw[fE G] at l;rw[fD n] at z;let(a,b,_):=off j s t n x z;simp only[Ak,Aq,gD] at l;exact l.elim a b;rw[fD G] at l;by_cases n:j=d;rw[fE n] at z;let(a,b,_):=off i r k G x l;simp only[Ak,Aq,gD] at z;exact z.elim a b;rw[fD n] at z;exact B.apart i j r s k t D x l z
 by_cases L:x=v p;exact#[d,_,f,by rw[fE rfl,L];exact Af ..]
 by_cases O:x=v e;exact#[d,_,f,by rw[fE rfl,O];exact Ag _ (Af ..)]
 by_cases J:x=s0 d;rw[J,C.h3] at l;cases l
 rw[C.same x L O J] at l;let(j,r,k,hm):=B.whole x c l;by_cases n:j=d;rw[n,rc u f] at hm;let E:x∈[_,_]:=hm;simp only[Ak,Aq,gD] at E;exact fF E (λz=>z.elim L J);exact#[j,r,k,by rw[fD n];exact hm]
end Fol
namespace Fol
open L2 Kn
def goS(m:Mem)(e:fB):fC->fB->eZ fB->fA (eZ fB)
 |0,_,_=>eW
 |n+1,p,tk=>if p=e then eV tk else if p∈tk then eW else match m p with
  |none=>eW
  |some c=>goS m e n c.2 (tk++[p])
def goT(m:Mem):fC->eZ fB->eZ fB->fA (eZ fB)
 |0,_,_=>eW
 |_+1,[],tk=>eV tk
 |n+1,p::co,tk=>if p=0 then goT m n co tk else if p∈tk then eW else match m p with
  |none=>eW
  |some c=>goT m n (c.1::c.2::co) (tk++[p])
section
variable{m:Mem} in
theorem zc{e:fB}:∀{n:fC}{p:fB}{tk r:eZ fB},goS m e n p tk=eV r->∃row,r=tk++row/\Seg m e p row/\∀y∈row,¬ y∈tk
 |0,_,_,_,h=>by cases h
 |n+1,p,tk,r,h=>by
  unfold goS at h;split at h;rename_i c;cases h;exact#[[],by rw[A2],c ▸ .nil,λy a=>by cases a]
  rename_i c;split at h;cases h
  rename_i hn;split at h;cases h
  rename_i d g;let(row,rfl,b,hd):=zc h;let(f,s):=d;refine#[p::row,by rw[A4];rfl,.cons c g (λz=>hd p z (Ab.mpr (.inr (Ae.mpr rfl)))) b,λy a=>?_];rcases Ak.mp a with rfl|a;exact hn;exact λz=>hd y a (Ab.mpr (.inl z))
theorem aan(h:Seg m e p row):∀{n:fC}{tk:eZ fB},row.length<n->(∀y∈row,¬ y∈tk)->goS m e n p tk=eV (tk++row):=by
 induction h with
 |nil =>
  intro n tk hn _;cases n with|zero=>cases hn|succ n=>unfold goS;rw[fE rfl,A2]
 | @cons x f s row h1 h2 h3 h4 ih =>
  intro n tk hn hd;cases n with
  |zero=>cases hn
  |succ n =>
   unfold goS;rw[fD h1,fD (hd x (Af ..)),h2];show goS m e n s (tk++[x])=_;rw[ih (by rw[Au] at hn;lia) (λy a z=>?_),A4];rfl
   rcases Ab.mp z with z|z;exact hd y (Ag _ a) z;rw[Ae.mp z] at a;exact h3 a
variable{m:Mem} in
variable{m:Mem} in
theorem tz:∀{n:fC}{co tk r:eZ fB},goT m n co tk=eV r->∃row,r=tk++row/\Forest m co row/\∀y∈row,¬ y∈tk
 |0,_,_,_,h=>by cases h
 |n+1,[],tk,r,h=>by cases h;exact#[[],by rw[A2],.nil,λy a=>by cases a]
 |n+1,p::co,tk,r,h=>by
  unfold goT at h;split at h;rename_i c;let(row,e,F,d):=tz h;subst c;exact#[row,e,.cons .nil F (λy a=>by cases a),d]
  rename_i c;split at h;cases h
  rename_i hn;split at h;cases h
  rename_i i k;let(row,rfl,F,hd):=tz h;let(f,s):=i;let(r1,v,rfl,u,q,g):=ki F;let(r2,R2,rfl,o,l,j):=ki q;let b:∀y∈r1++(r2++R2),y≠p:=λy a z=>hd y a (by rw[z];exact Ab.mpr (.inr (Ae.mpr rfl)));let t:Tr m p (p::(r1++r2)):=.node c k u o (λz=>b p (Ab.mpr (.inl z)) rfl) (λz=>b p (Ab.mpr (.inr (Ab.mpr (.inl z)))) rfl) (λy a z=>g y a (Ab.mpr (.inl z)));refine#[(p::(r1++r2))++R2,by simp,.cons t l (λy a z=>?_),λy a z=>?_];rcases Ak.mp a with rfl|a;exact b _ (Ab.mpr (.inr (Ab.mpr (.inr z)))) rfl;rcases Ab.mp a with a|a;exact g y a (Ab.mpr (.inr z));exact j y a z
  rcases Ak.mp (show y∈p::((r1++r2)++R2) from a) with rfl|a;exact hn z;exact hd y (by rw[<- A4];exact a) (Ab.mpr (.inl z))
variable{m:Mem} in
theorem va:∀{n:fC}{co tk row:eZ fB},Forest m co row->2*row.length+co.length<n->(∀y∈row,¬ y∈tk)->goT m n co tk=eV (tk++row)
 |0,_,_,_,_,hn,_=>by lia
 |n+1,[],tk,row,h,_,_=>by cases h;unfold goT;rw[A2]
 |n+1,p::co,tk,row,h,hn,hd=>by
  let(r1,r2,rfl,t,F,d):=ki h;rw[Au] at hn;unfold goT;by_cases c:p=0;rw[fE c];let:=qw t c;subst this;exact va F (by rw[CY] at hn;rw[CY];lia) (λy a=>hd y a)
  rw[fD c];let b:=(h:Forest m (p::co) (r1++r2)).nodup;let(f,s,j,g,rfl,h2,o,k,i):=ri t c;rw[fD (hd p (Ab.mpr (.inl (Af ..)))),h2];show goT m n (f::s::co) (tk++[p])=_;let l:Forest m (f::s::co) (j++(g++r2)):=.cons o (.cons k F λy a=>d y (Ag _ (Ab.mpr (.inr a)))) λy a z=>by
   rcases Ab.mp z with z|z;exact i y a z;exact d y (Ag _ (Ab.mpr (.inl a))) z
  let e:(p::(j++g))++r2=p::(j++(g++r2)):=by simp
  rw[e] at hn hd b;rw[va l (by simp only[Au] at hn |-;lia) (λy a z=>?_),e];simp
  rcases Ab.mp z with z|z;exact hd y (Ag _ a) z;rw[Ae.mp z] at a;exact(AK.mp b).1 a
def Many(m:Mem)(n:fC):Prop:=∀l:eZ fB,l.Nodup->(∀y∈l,∃c,m y=eV c)->l.length<=n
theorem goS_iff(hm:Many m n):goS m e (n+1) p []=eV r↔Seg m e p r:=by
 constructor;intro h;let(row,a,h1,_):=zc h;rw[CY] at a;subst a;exact h1;intro h;let:=hm r h.nodup h.dom;rw[aan h (by lia) (λy _=>Aq),CY]
theorem goT_iff(hm:Many m n):goT m (2*n+2) [p] []=eV r↔Tr m p r:=by
 constructor;intro h;let(row,c,F,_):=tz h;rw[CY] at c;subst c;let(a,b,rfl,t,d,_):=ki F;cases d;rw[A2];exact t
 intro h;let:=hm r h.nodup h.dom;let F:Forest m [p] r:=by
  let:=Forest.cons h (Forest.nil (m:=m)) (λy e z=>by cases z);rw[A2] at this;exact this
 rw[va F (by show 2*r.length+1<_;lia) (λy _=>Aq),CY]
end
theorem a2w:∀{rows:eZ (eZ fB)},rows.flatten.Nodup->rows.Pairwise (λa b=>∀x,x∈a->x∈b->False)
 |[],_=>.nil
 |r::rs,h=>by
  let h':(r++rs.flatten).Nodup:=h;let(h1,h2,h3):=AN.mp h';exact .cons (λb d x e c=>h3 x e x (Bz.mpr #[b,d,c]) rfl) (a2w h2)
theorem fits_list{rows:eZ (eZ fB)}(hm:Many m n)(F:∃l:eZ fB,l.Nodup/\l.length=n/\∀y,(∃c,m y=eV c)↔y∈l)(hi:∀a b,[("is":fS),a,b]∈G->v a=v b)(hn:∀a b,[("not":fS),a,b]∈G->v a≠v b)(hl:rows.length=S.length)(B:∀(j:fC) r row,S[j]?=eV r->rows[j]?=eV row->Tk v m r row)(hd:rows.flatten.Nodup)(T:rows.flatten.length=n):Fits v m G S (λj=>rows.getD j []):=by
 let p:∀{j:fC} {r:fJ},S[j]?=eV r->∃row,rows[j]?=eV row/\rows.getD j []=row:=λ{j r} h=>by
  let:j<rows.length:=by rw[hl];exact(Ao.mp h).1
  exact#[rows[j],Ah this,by rw[A7,Ah this];rfl]
 let dom:∀y∈rows.flatten,∃c,m y=eV c:=λy d=>by
  let(row,e,d):=Bz.mp d;let(j,o):=CD e;let f:j<S.length:=by rw[<- hl];exact(Ao.mp o).1
  exact(B j S[j] row (Ah f) o).dom y d
 refine#[hi,hn,λj r e=>?_,λi j r s e q g x k z=>?_,λx c k=>?_];let(row,h1,h2):=p e;show Tk v m r (rows.getD j []);rw[h2];exact B j r row e h1
 . let(r1,h1,h2):=p e;let(r2,h3,L):=p q;simp only[h2] at k;simp only[L] at z;let O:=a2w hd;let key:∀(i j:fC) a b,i<j->rows[i]?=eV a->rows[j]?=eV b->x∈a->x∈b->False:=λi j a b g M I u w=>by
    let(N,P):=Ao.mp M;let(H,E):=Ao.mp I;let:=List.pairwise_iff_getElem.mp O i j N H g;rw[P,E] at this;exact this x u w
   rcases Ho g with c|c;exact key i j r1 r2 c h1 h3 k z;exact key j i r2 r1 c h3 h1 z k
 let(l,R,Q,D):=F;let C:∀y∈rows.flatten,y∈l:=λy d=>(D y).mp (dom y d);let J:=(D x).mp #[c,k];let:x∈rows.flatten:=by
  by_cases A:x∈rows.flatten;exact A
  let h2:(x::rows.flatten).Nodup:=AK.mpr #[A,hd];let:=hm (x::rows.flatten) h2 (λy d=>by
   rcases Ak.mp d with rfl|d;exact#[c,k]
   exact dom y d)
  rw[Au] at this
  lia
 let(row,e,t):=Bz.mp this;let(j,o):=CD e;let f:j<S.length:=by rw[<- hl];exact(Ao.mp o).1
 exact#[j,S[j],Ah f,by rw[A7,o];exact t]
end Fol
namespace K37.Cv
open L2 Mir Kn
theorem nd_lenG{α:Type}[DecidableEq α]:∀{l m:eZ α},l.Nodup->(∀x∈l,x∈m)->l.length<=m.length
 |[],_,_,_=>AF _
 |x::l,m,hn,hm=>by
  let d:=hm x (Af ..);let(h1,h2):=AK.mp hn;let:=nd_lenG (l:=l) (m:=m.erase x) h2 λy c=>(E1 (a:=y) (b:=x) (λe=>h1 (by rw[<- e];exact c))).mpr (hm y (Ag _ c));rw[DN d] at this;let hp:0<m.length:=CZ d;rw[Au]
  lia
section
variable{cs:ig} in
theorem a0r(e:fB):∀(n:fC) (p:fB) (tk:eZ fB),qe cs e n p tk=Fol.goS (atc cs) e n p tk
 |0,_,_=>rfl
 |n+1,p,tk=>by
  unfold qe Fol.goS;cases atc cs p with|none=>rfl|some c=>simp only[a0r e n]
variable{cs:ig} in
theorem u6:∀(n:fC) (co tk:eZ fB),mr cs n co tk=Fol.goT (atc cs) n co tk
 |0,_,_=>rfl
 |n+1,[],tk=>rfl
 |n+1,p::co,tk=>by
  unfold mr Fol.goT;cases atc cs p with|none=>simp only[u6 n]|some c=>simp only[u6 n]
theorem atc_dom:(∃c,atc cs x=eV c)↔x∈cs.map (·.1):=by
 constructor;rintro⟨c,h⟩;exact atc_mem (by rw[h];rfl)
 intro h;let(c,a,rfl):=As.mp h;unfold atc;cases hf:cs.find? (λd=>decide (d.1=c.1)) with|some d=>exact#[d.2,fR]|none=>exact fF (BA.mp hf c a) (by simp)
theorem atc_many:Fol.Many (atc cs) cs.length:=λl hl hd=>by
 let:=nd_lenG hl λx a=>atc_dom.mp (hd x a);rw[Ad] at this;exact this
theorem a5v(i:PartRow r)(row:eZ fB):mw m cs r=eV row↔Fol.Tk (num m) (atc cs) r row:=by
 rcases i with⟨a,f,s,rfl⟩|⟨a,b,rfl⟩|⟨a,rfl⟩
 . show ox m cs a f s=eV row↔_;unfold ox;cases hz:atc cs (num m a) with
   |none =>
    refine#[λh=>(by cases h),λh=>?_];cases h with|cell h _ _=>rw[hz] at h;cases h
   |some c =>
    show(if mayB m f c.1=eX/\mayB m s c.2=eX then eV [num m a] else eW)=eV row↔_;let g:∀x n,mayB m x n=eX↔x="any" \/ num m x=n:=λx n=>by unfold mayB;simp
    by_cases d:mayB m f c.1=eX/\mayB m s c.2=eX
    . rw[fE d];constructor;intro e;cases e;exact .cell (x:=c.1) (y:=c.2) hz ((g _ _).mp d.1) ((g _ _).mp d.2)
      . intro h;cases h with|cell h _ _=>rfl
    rw[fD d];refine#[λh=>(by cases h),λh=>?_];cases h with
    |cell h h1 h2 =>
     rw[hz] at h;cases h;exact fF #[(g _ _).mpr h1,(g _ _).mpr h2] d
 . show mi cs (num m a) (num m b)=eV row↔_;unfold mi;rw[a0r,Fol.goS_iff atc_many];constructor;intro h;exact .str h
   . intro h;cases h with|str h=>exact h
 show qh cs (num m a)=eV row↔_;unfold qh;rw[u6,Fol.goT_iff atc_many];constructor;intro h;exact .tree h
 intro h;cases h with|tree h=>exact h
theorem allSome_iff:∀{os:eZ (fA α)}{as:eZ α},kf os=eV as↔os=as.map eV
 |[],[]=>#[λ_=>rfl,λ_=>rfl]
 |[],a::as=>#[λh=>(by cases h),λh=>(by cases h)]
 |none::r,as=>#[λh=>(by cases h),λh=>(by cases as<;>cases h)]
 |some a::r,as=>by
  show(kf r).map (a :: ·)=eV as↔_;cases as with
  |nil=>cases kf r<;>simp
  |cons b bs =>
   let:=allSome_iff (os:=r) (as:=bs);constructor
   . intro h;cases hz:kf r with
     |none=>rw[hz] at h;cases h
     |some cs =>
      rw[hz] at h;let h':a::cs=b::bs:=Am h;cases h';rw[A5,this.mp hz]
   intro h;rw[A5] at h;cases h;rw[this.mpr rfl];rfl
theorem a59(c:i5 r):lb m r=eX↔(∀a b,r=[("is":fS),a,b]->num m a=num m b)/\∀a b,r=[("not":fS),a,b]->num m a≠num m b:=by
 let(k,u,v,rfl,d):=c;show decide (decide (num m u=num m v)=decide (k="is"))=eX↔_;rcases d with rfl|rfl
 . constructor;intro h;refine#[λa b e=>?_,λa b e=>?_];cases e;simpa using h;cases e
   intro h;simpa using h.1 u v rfl
 rw[show decide (("not":fS)="is")=eY by decide];constructor;intro h;refine#[λa b e=>?_,λa b e=>?_];cases e;cases e;exact fW (fV h)
 intro h;exact fU (fT (h.2 u v rfl))
theorem fits_rows(hn:(cs.map (·.1)).Nodup)(T:fJ->fA (eZ fB))(t:∀r∈ps,∀row,T r=eV row↔Fol.Tk v (atc cs) r row):
 (((∀a b,[("is":fS),a,b]∈fs->v a=v b)/\∀a b,[("not":fS),a,b]∈fs->v a≠v b)/\∃rows:eZ (eZ fB),ps.map T=rows.map eV/\rows.flatten.Nodup/\rows.flatten.length=cs.length)↔∃R,Fol.Fits v (atc cs) fs ps R:=by
 constructor
 . rintro⟨⟨A,B⟩,rows,hm,k,h3⟩;refine#[_,Fol.fits_list (n:=cs.length) atc_many #[cs.map (·.1),hn,Ad ..,λy=>atc_dom] A B ?_ ?_ k h3];let:=fX EJ hm;rw[Ad,Ad] at this;exact this.symm
   . intro j r row d g;refine(t r (Ar d) row).mp ?_;let u:(ps.map T)[j]?=eV (T r):=by rw[Ap,d];rfl
     let D:(rows.map eV)[j]?=eV (eV row):=by rw[Ap,g];rfl
     rw[hm,D] at u;exact(Am u).symm
 rintro⟨R,h⟩;let hm:ps.map T=((Bb ps.length).map R).map eV:=by
  refine Hv λj=>?_;rw[Ap,Ap,Ap];cases d:ps[j]? with
  |none =>
   rw[BP (by rw[B6];exact DC.mp d)];rfl
  |some r =>
   rw[G9 (Ao.mp d).1];show eV (T r)=eV (eV (R j));rw[(t r (Ar d) (R j)).mpr (h.tk j r d)]
 let mem:∀{j:fC},j∈Bb ps.length->∃r,ps[j]?=eV r:=λd=>#[_,Ah (Br.mp d)]
 let k:(((Bb ps.length).map R).flatten).Nodup:=by
  unfold List.Nodup;rw[List.pairwise_flatten];exists λl hl=>?_;let(j,d,rfl):=As.mp hl;let(r,f):=mem d;exact(h.tk j r f).nodup;rw[List.pairwise_map];refine List.Pairwise.imp_of_mem (λ{i j} hi d p=>?_) (List.pairwise_lt_range (n:=ps.length));intro x o y e z;let(r,f):=mem hi;let(s,C):=mem d;exact h.apart i j r s f C (AB p) x o (z ▸ e)
 refine#[#[h.is_,h.not_],_,hm,k,Nat.le_antisymm (atc_many _ k λy e=>?_) ?_];let(l,hl,e):=Bz.mp e;let(j,d,rfl):=As.mp hl;let(r,f):=mem d;exact(h.tk j r f).dom y e
 let:=nd_lenG hn (m:=((Bb ps.length).map R).flatten) λx o=>by
  let(c,w):=atc_dom.mpr o;let(j,r,d,q):=h.whole x c w;exact Bz.mpr #[R j,As.mpr #[j,Br.mpr (Ao.mp d).1,fR],q]
 rw[Ad] at this;exact this
theorem facts_iff{v:fS->fB}{fs:fG}(d:∀r∈fs,i5 r){T:fJ->gQ}(f:∀r,i5 r->(T r=eX↔(∀a b,r=[("is":fS),a,b]->v a=v b)/\∀a b,r=[("not":fS),a,b]->v a≠v b)):(∀r∈fs,T r=eX)↔(∀a b,[("is":fS),a,b]∈fs->v a=v b)/\∀a b,[("not":fS),a,b]∈fs->v a≠v b:=by
 constructor;intro h;exact#[λa b c=>((f _ (d _ c)).mp (h _ c)).1 a b rfl,λa b c=>((f _ (d _ c)).mp (h _ c)).2 a b rfl];rintro⟨h1,h2⟩ r g;exact(f r (d r g)).mpr #[λa b e=>h1 a b (e ▸ g),λa b e=>h2 a b (e ▸ g)]
theorem fitsB_iff(hn:(cs.map (·.1)).Nodup)(i:∀r∈fs,i5 r)(hp:∀r∈ps,PartRow r):fitsB m cs fs ps=eX↔∃R,Fol.Fits (num m) (atc cs) fs ps R:=by
 rw[<- fits_rows hn (mw m cs) λr g row=>a5v (hp r g) row,<- facts_iff i λr g=>a59 (m:=m) g,<- Bo];let d:∀rows:eZ (eZ fB),(rows.map (·.length)).sum=rows.flatten.length:=λrows=>by rw[List.length_flatten]
 unfold fitsB mn;by_cases f:fs.all (lb m)=eX
 . rw[fE f];cases hz:kf (ps.map (mw m cs)) with
   |none =>
    exists λh=>(by cases h);rintro⟨_,rows,hm,_⟩;rw[allSome_iff.mpr hm] at hz;cases hz
   |some rows =>
    let hm:=allSome_iff.mp hz;simp only;by_cases e:rows.flatten.Nodup;rw[fE e];show decide _=eX↔_;rw[decide_eq_true_iff,d];constructor;intro h;exact#[f,rows,hm,e,h];rintro⟨_,b,a,_,h⟩;rw[hm] at a;rw[(CV (λ_ _ z=>Am z)).mp a];exact h
    rw[fD e];exists λh=>(by cases h);rintro⟨_,b,a,c,_⟩;rw[hm] at a;rw[(CV (λ_ _ z=>Am z)).mp a] at e;exact fF c e
 rw[fD f];exact#[λh=>(by cases h),λh=>fF h.1 f]
end
end K37.Cv
namespace K37
open L2 Mir Kn
theorem sd:gq=Cv.atc:=rfl
section
variable{cs:ig} in
theorem aci{e:fB}{stop:fB->Prop}(g:∀x,stop x↔x=e):∀{n:fC}{x:fB}{tk:eZ fB},tk.Nodup->(∀y∈tk,∃c,gq cs y=eV c)->cs.length<n+tk.length->Walk cs stop eX n [x] tk (Fol.goS (gq cs) e n x tk)
 |0,x,tk,hn,hd,hl=>fF (Cv.atc_many (cs:=cs) tk hn hd) (by lia)
 |n+1,x,tk,hn,hd,hl=>by
  unfold Fol.goS;by_cases d:x=e;rw[fE d];exact .stop n x [] tk _ ((g x).mpr d) (.done n tk)
  rw[fD d];by_cases h:x∈tk;rw[fE h];exact .fail n x [] tk (λz=>d ((g x).mp z)) (.inr h)
  rw[fD h];cases hz:gq cs x with
  |none=>exact .fail n x [] tk (λz=>d ((g x).mp z)) (.inl hz)
  |some c =>
   let(f,s):=c;refine .step n x f s [] tk _ (λz=>d ((g x).mp z)) hz h ?_;refine aci g (AN.mpr #[hn,by simp,λa k b i z=>h (by rw[<- Ae.mp i,<- z];exact k)]) (λy j=>?_) (by rw[Aj,Av];lia);rcases Ab.mp j with z|z;exact hd y z;rw[Ae.mp z];exact#[_,hz]
variable{cs:ig} in
theorem a56{stop:fB->Prop}(d:∀x,stop x↔x=0):∀{n:fC}{co tk:eZ fB},tk.Nodup->(∀y∈tk,∃c,gq cs y=eV c)->2*cs.length+co.length<n+2*tk.length->Walk cs stop eY n co tk (Fol.goT (gq cs) n co tk)
 |0,co,tk,hn,hd,hl=>fF (Cv.atc_many (cs:=cs) tk hn hd) (by lia)
 |n+1,[],tk,hn,hd,hl=>.done _ _
 |n+1,x::co,tk,hn,hd,hl=>by
  unfold Fol.goT;rw[Au] at hl;by_cases e:x=0;rw[fE e];exact .stop n x co tk _ ((d x).mpr e) (a56 d hn hd (by lia))
  rw[fD e];by_cases g:x∈tk;rw[fE g];exact .fail n x co tk (λz=>e ((d x).mp z)) (.inr g)
  rw[fD g];cases hz:gq cs x with
  |none=>exact .fail n x co tk (λz=>e ((d x).mp z)) (.inl hz)
  |some c =>
   let(f,s):=c;refine .step n x f s co tk _ (λz=>e ((d x).mp z)) hz g ?_;refine a56 d (co:=f::s::co) (AN.mpr #[hn,by simp,λa j b h z=>g (by rw[<- Ae.mp h,<- z];exact j)]) (λy i=>?_) (by rw[Aj,Av];simp only[Au];lia);rcases Ab.mp i with z|z;exact hd y z;rw[Ae.mp z];exact#[_,hz]
def lr(kv:eZ (Key×V))(cs:ig)(r:fJ):fA (eZ fB) :=
 if r.getD 0 ""="cell" then(match gq cs (vI kv (place r)) with|none=>eW|some (f,s)=>if(mayW kv (r.getD 2 "") f && mayW kv (r.getD 3 "") s)=eX then eV [vI kv (place r)] else eW)
 else if r.getD 0 ""="stretch" then Fol.goS (gq cs) (vI kv (r.getD 2 "")) (cs.length+1) (vI kv (place r)) [] else Fol.goT (gq cs) (2*cs.length+2) [vI kv (place r)] []
theorem ab1(d:PartRow r)(e:cs.length<=190):a12 kv cs r (lr kv cs r):=by
 refine#[λh=>?_,λh=>?_];unfold lr;exact(fE h).trans (by cases gq cs (vI kv (place r))<;>rfl)
 unfold lr;rw[fD h];rcases d with⟨a,f,s,rfl⟩|⟨a,b,rfl⟩|⟨a,rfl⟩
 . exact fF rfl h
 . rw[fE (show([("stretch":fS),a,b]:fJ).getD 0 ""="stretch" from rfl)];refine#[cs.length+1,by lia,?_];rw[show decide (([("stretch":fS),a,b]:fJ).getD 0 ""="stretch")=eX from rfl];refine aci (λx=>?_) Bh (λy c=>by cases c) (by simp);unfold uw;constructor;rintro (⟨_,z⟩|⟨z,_⟩);exact z;cases z
   intro z;exact .inl #[fR,z]
 rw[fD (show ¬ ([("tree":fS),a]:fJ).getD 0 ""="stretch" from(by decide:¬ ("tree":fS)="stretch"))];refine#[2*cs.length+2,by lia,?_];rw[show decide (([("tree":fS),a]:fJ).getD 0 ""="stretch")=eY from rfl];refine a56 (λx=>?_) Bh (λy c=>by cases c) (by simp);unfold uw;constructor;rintro (⟨z,_⟩|⟨_,z⟩);cases z;exact z
 intro z;exact .inr #[fR,z]
theorem we(i:PartRow r)(row:eZ fB):lr kv cs r=eV row↔Fol.Tk (vI kv) (gq cs) r row:=by
 unfold lr;rcases i with⟨a,f,s,rfl⟩|⟨a,b,rfl⟩|⟨a,rfl⟩
 . rw[fE (show([("cell":fS),a,f,s]:fJ).getD 0 ""="cell" from rfl)];show(match gq cs (vI kv a) with|none=>eW|some (x,y)=>if(mayW kv f x && mayW kv s y)=eX then eV [vI kv a] else eW)=eV row↔_;let g:∀x n,mayW kv x n=eX↔x="any" \/ vI kv x=n:=λx n=>by unfold mayW;simp
   cases hz:gq cs (vI kv a) with
   |none =>
    refine#[λh=>(by cases h),λh=>?_];cases h with|cell h _ _=>rw[hz] at h;cases h
   |some c =>
    let(x,y):=c;show(if(mayW kv f x && mayW kv s y)=eX then eV [vI kv a] else eW)=eV row↔_;by_cases d:(mayW kv f x && mayW kv s y)=eX
    . rw[fE d];rw[Bv] at d;constructor;intro e;cases e;exact .cell hz ((g _ _).mp d.1) ((g _ _).mp d.2)
      . intro h;cases h with|cell h _ _=>rfl
    rw[fD d];refine#[λh=>(by cases h),λh=>?_];cases h with
    |cell h h1 h2 =>
     rw[hz] at h;cases h;rw[Bv] at d;exact fF #[(g _ _).mpr h1,(g _ _).mpr h2] d
 . rw[fD (show ¬ ([("stretch":fS),a,b]:fJ).getD 0 ""="cell" from(by decide:¬ ("stretch":fS)="cell")),fE (show([("stretch":fS),a,b]:fJ).getD 0 ""="stretch" from rfl)];show Fol.goS (gq cs) (vI kv b) (cs.length+1) (vI kv a) []=eV row↔_;rw[sd,Fol.goS_iff (Cv.atc_many (cs:=cs))];constructor;intro h;exact .str h
   . intro h;cases h with|str h=>exact h
 rw[fD (show ¬ ([("tree":fS),a]:fJ).getD 0 ""="cell" from(by decide:¬ ("tree":fS)="cell")),fD (show ¬ ([("tree":fS),a]:fJ).getD 0 ""="stretch" from(by decide:¬ ("tree":fS)="stretch"))];show Fol.goT (gq cs) (2*cs.length+2) [vI kv a] []=eV row↔_;rw[sd,Fol.goT_iff (Cv.atc_many (cs:=cs))];constructor;intro h;exact .tree h
 intro h;cases h with|tree h=>exact h
theorem a47(c:i5 r):wj kv r=eX↔(∀a b,r=[("is":fS),a,b]->vI kv a=vI kv b)/\∀a b,r=[("not":fS),a,b]->vI kv a≠vI kv b:=by
 let(k,u,v,rfl,d):=c;show(decide (vI kv u=vI kv v)==decide (k="is"))=eX↔_;rcases d with rfl|rfl
 . rw[show decide (("is":fS)="is")=eX by decide];constructor;intro h;refine#[λa b e=>?_,λa b e=>?_];cases e;exact fV (by simpa using h);cases e
   intro h;rw[fU (h.1 u v rfl)];rfl
 rw[show decide (("not":fS)="is")=eY by decide];constructor;intro h;refine#[λa b e=>?_,λa b e=>?_];cases e;cases e;intro z;rw[fU z] at h;cases h
 intro h;rw[fT (h.2 u v rfl)];rfl
theorem a1y(hn:(cs.map (·.1)).Nodup)(b:∀r∈F,i5 r)(hp:∀r∈P,PartRow r):(∃rows,CovOk kv F (P.map (lr kv cs)) rows/\rows.flatten.length=cs.length)↔∃R,Fol.Fits (vI kv) (gq cs) F P R:=by
 rw[sd,<- Cv.fits_rows hn (lr kv cs) λr a row=>we (hp r a) row,<- Cv.facts_iff b λr a=>a47 (kv:=kv) a];constructor;rintro⟨rows,h,hl⟩;exact#[h.facts,rows,h.all,h.nd,hl];rintro⟨h1,rows,h2,h3,c⟩;exact#[rows,#[h1,h2,h3],c]
theorem a50{P:fG}(hp:∀r∈P,PartRow r)(d:P.length<=6)(c:cs.length<=100):((P.map (lr kv cs)).filterMap id).flatten.length<=900:=by
 let one:∀r∈P,∀row,lr kv cs r=eV row->row.length<=100:=λr a row h=>by
  let t:=(we (hp r a) row).mp h;exact AA (Cv.atc_many (cs:=cs) row t.nodup t.dom) c
 let:∀l:fG,(∀r∈l,r∈P)->((l.map (lr kv cs)).filterMap id).flatten.length<=100*l.length:=λl=>by
  induction l with
  |nil=>intro _;exact An _
  |cons r l ih =>
   intro h;let i1:=ih λx b=>h x (Ag _ b);rw[A5,BN];cases hz:lr kv cs r with
   |none=>simp only[id];rw[Au];lia
   |some row =>
    let:=one r (h r (Af ..)) row hz;simp only[id];rw[CB,Aj,Au];lia
 let:=this P λr a=>a
 lia
end
structure Rdx(F P:fG)(ws:fJ)(kv:eZ (Key×V)):Prop where
 hF:∀r∈F,i5 r
 ok:NumOk (fq F) ws kv
 dF:∀r∈F,∀x∈r.drop 1,Dom ws x
 dP:∀r∈P,Fol.PartD (Dom ws) r
 any:¬ Dom ws "any"
 nocl:∀y,¬ Un F P y y
 rdy:∀(j:fC) r,P[j]?=eV r->¬ ks r (fq F) []->¬ ly F P (neOf F P) j r
theorem oi(h:Fol.PartD Dm r):PartRow r:=by
 cases h with|cell=>exact .inl #[_,_,_,fR]|str=>exact .inr (.inl #[_,_,fR])|tree=>exact .inr (.inr #[_,fR])
theorem lm(h:Fol.PartD Dm r):Dm (place r):=by cases h<;>assumption
theorem pc(a:Dm "nil")(h:Fol.PartD Dm r):Dm (end2 r):=by
 cases h with|cell=>exact a|str _ z=>exact z|tree=>exact a
theorem u8:∀{cs:ig}{a f s:fB},(cs.map (·.1)).Nodup->(a,f,s)∈cs->gq cs a=eV (f,s)
 |c::cs,a,f,s,hn,hm=>by
  let(h1,h2):=AK.mp hn;unfold gq;rcases Ak.mp hm with z|z;rw[<- z];simp;let b:¬ c.1=a:=λw=>h1 (by show c.1∈_;rw[w];exact As.mpr #[_,z,fR]);let:=u8 h2 z;unfold gq at this;simp only[Ba,b,decide_false];exact this
theorem Rdx.vi(R:Rdx F P a kv)(c:Dom a x)(b:Dom a y):vI kv x=vI kv y↔fq F x=fq F y:=by
 let h1:=R.ok.at_ x c;let h2:=R.ok.at_ y b;rw[<- R.ok.inj x y c b];unfold vI;constructor;intro e;rw[h1,h2,e];intro e;rw[e]
theorem Rdx.nil(R:Rdx F P a kv):vI kv "nil"=0:=by unfold vI;rw[R.ok.nil];rfl
theorem Rdx.lt(R:Rdx F P a kv)(b:Dom a x):0<=vI kv x/\vI kv x<(a.length:fB)+1:=by
 let:=R.ok.lt x b;unfold vI
 lia
theorem jc(a:j∈neOf F P):P[j]?=eV (P.getD j []):=by
 rw[A7,Ah (o0 j a)];rfl
def AmOk(F P:fG)(ws:fJ)(am:fA (fC×fS)):Prop:=∀k e,am=eV (k,e)->Dom ws e/\∀j∈neOf F P,fq F (place (P.getD j []))≠fq F e
theorem Rdx.places(R:Rdx F P b kv)(hA:AmOk F P b am):Places kv ((b.length:fB)+1) am P (neOf F P):=by
 let pl:∀{j:fC},j∈neOf F P->Dom b (place (P.getD j [])):=λa=>lm (R.dP _ (Ar (jc a)));refine#[λk e d=>#[(R.lt (hA k e d).1).2,λj a z=>(hA k e d).2 j a ((R.vi (pl a) (hA k e d).1).mp z)],CW CL Ea,λj a=>(R.lt (pl a)).2,λi hi j a c e=>?_];exact R.rdy i _ (jc hi) ((kh (jc hi)).mp hi) (.inl #[j,a,AE c,_,jc a,(R.vi (pl hi) (pl a)).mp e])
theorem p6(c:Places kv bs am P (neOf F P))(b:j∈neOf F P)(h:(a,f,s)∈jm kv bs am P j):gq (iu kv bs am P (neOf F P)) a=eV (f,s) :=
 u8 (lz c) (Bz.mpr #[_,As.mpr #[j,b,fR],h])
theorem Rdx.gI(R:Rdx F P ws kv)(bs:fB){x:fS}(h:x="any" \/ Dom ws x):gI kv bs x=Fol.val (vI kv) bs x:=by
 unfold K37.gI Fol.val;by_cases c:x="any"
 . rw[fE c];cases hz:valV kv (Sum.inr x) with
   |none=>rfl
   |some v =>
    let(y,h1,h2):=R.ok.no (Sum.inr x) (by rw[hz];rfl);rw[<- BR h1,c] at h2;exact fF h2 R.any
 rw[fD c,fE];rw[R.ok.at_ x (h.resolve_left c)];rfl
def s0N(ws:fJ)(j:fC):fB:=(ws.length:fB)+1+2*(j:fB)+1
def s1N(ws:fJ)(j:fC):fB:=(ws.length:fB)+1+2*(j:fB)+2
theorem a0w:AmOk F P a eW:=λk e h=>by cases h
theorem Rdx.ex(R:Rdx F P ws kv):Fol.Ex (mmOf F P) (vI kv) (gq (iu kv ((ws.length:fB)+1) eW P (neOf F P))) ((ws.length:fB)+1) (neOf F P) (s0N ws) (s1N ws) (Dom ws):=by
 let row:∀{j:fC} {r:fJ},P[j]?=eV r->Fol.PartD (Dom ws) r:=λh=>R.dP _ (Ar h);let k:=R.places (am:=eW) a0w;let m:∀{j:fC} {r:fJ},P[j]?=eV r->P.getD j []=r:=λh=>Fol.some_getD h;let o:Dom ws "nil" := .inl rfl;let heads:∀{x:fS} {j:fC},(mmOf F P).num x=eV j->j∈neOf F P/\fq F (place (P.getD j []))=fq F x:=λ{x j} h=>by
  let h1:=Bj h;let h2:=Cy h;exact#[h1,by simpa using h2]
 let one:∀{i j:fC},i∈neOf F P->j∈neOf F P->fq F (place (P.getD i []))=fq F (place (P.getD j []))->i=j:=λ{i j} hi e h=>by
  by_cases c:i=j;exact c;exact fF (.inl #[j,e,AE c,_,jc e,h]) (R.rdy i _ (jc hi) ((kh (jc hi)).mp hi))
 exists λj r h=>row h,R.nil,o,R.any,λx n=>R.lt n,λa b w v=>?_,λx j n h=>?_,λx j r n e g h=>?_,λj e=>#[_,jc e],λj e r g u h=>?_,λj e r g h=>?_,λj e p f s g=>?_,λj e p q g=>?_,λj e p g=>?_,λx c n=>?_,?_,?_,?_,?_;show decide _=eX↔_;rw[decide_eq_true_iff];exact(R.vi w v).symm;let(h1,h2):=heads h;exact#[h1,_,jc h1,(R.vi (lm (row (jc h1))) n).mpr h2]
 . let t:fq F (place (P.getD j []))=fq F x:=by rw[m g];exact(R.vi (lm (row g)) n).mp h
   cases hz:(mmOf F P).num x with
   |none =>
    let:=BA.mp hz j e;exact fF (fU t) this
   |some i =>
    let(h1,h2):=heads hz;rw[one h1 e (h2.trans t.symm)]
 . exact((kh g).mp e) #[u,(R.vi (lm (row g)) (pc o (row g))).mp h]
 . rw[<- R.nil] at h;exact R.rdy j r g ((kh g).mp e) (.inr ((R.vi (lm (row g)) o).mp h))
 . let hd:=row g;generalize he:[("cell":fS),p,f,s]=r at hd;cases hd with
   |cell _ hf hs =>
    cases he;refine p6 k e ?_;unfold jm;rw[m g,<- R.gI _ hf,<- R.gI _ hs];exact Ae.mpr rfl
   |str=>cases he
   |tree=>cases he
 . constructor;refine p6 k e ?_;unfold jm;rw[m g];exact Af ..;refine p6 k e ?_;unfold jm;rw[m g];exact Ag _ (Af ..)
 . exists ?_,?_;refine p6 k e ?_;unfold jm;rw[m g];exact Af ..;refine p6 k e ?_;unfold jm;rw[m g];exact Ag _ (Af ..);refine p6 k e ?_;unfold jm;rw[m g];exact Ag _ (Ag _ (Af ..))
 . let hm:=Cv.atc_mem (cs:=iu kv ((ws.length:fB)+1) eW P (neOf F P)) (x:=x) (by rw[<- sd,n];rfl);let(d,hd,rfl):=As.mp hm;let(l,hl,hd):=Bz.mp hd;let(j,e,rfl):=As.mp hl;exists j,e,_,jc e;let g:=row (jc e);unfold jm at hd;show d.1∈Fol.exD (vI kv) (s0N ws) (s1N ws) j (P.getD j []);generalize P.getD j []=r at hd g |-;cases g with
   |cell=>let:=Ae.mp hd;rw[this];exact Ae.mpr rfl
   |str =>
    rcases Ak.mp hd with z|z;rw[z];exact Af ..;rw[Ae.mp z];exact Ag _ (Af ..)
   |tree =>
    rcases Ak.mp hd with z|z;rw[z];exact Af ..
    rcases Ak.mp z with z|z;rw[z];exact Ag _ (Af ..);rw[Ae.mp z];exact Ag _ (Ag _ (Af ..))
 . intro j;unfold s0N;lia
 . intro j;unfold s1N;lia
 . intro i j h;unfold s0N at h;lia
 . intro i j h;unfold s1N at h;lia
 intro i j h;unfold s0N s1N at h;lia
theorem Rdx.says(R:Rdx F P f kv):Fol.Says (mmOf F P) (vI kv) (neOf F P) F:=by
 let dom:∀{k a b:fS},[k,a,b]∈F->Dom f a/\Dom f b:=λh=>#[R.dF _ h _ (Af ..),R.dF _ h _ (Ag _ (Af ..))]
 refine#[λa b h=>?_,λa b h e=>?_,λj r d g=>?_];exact(R.vi (dom h).1 (dom h).2).mpr ((j8 R.hF a b).mpr (.fact h));let c:=(j8 R.hF a b).mp ((R.vi (dom h).1 (dom h).2).mp e);exact R.nocl b ((ke F P).conn _ _ _ c.symm ((ke F P).fact _ _ h))
 let:ks r (fq F) []:=by
  by_cases c:ks r (fq F) [];exact c;exact fF ((kh d).mpr c) g
 exact#[this.1,(R.vi (lm (R.dP _ (Ar d))) (pc (.inl rfl) (R.dP _ (Ar d)))).mpr this.2]
end K37
namespace Fol
open L2 Kn
structure EnvOk(E:Env):Prop where
 tr:∀a b c,E.al a b->E.al b c->E.al a c
 sy:∀a b,E.al a b->E.al b a
 at_:∀x j r,E.at_ x j->E.P[j]?=eV r->E.al x (place r)
 ne:∀x j r,E.at_ x j->E.P[j]?=eV r->¬ E.full j->¬ E.al (place r) (end2 r)
section
variable{E:Env}{W:fS->Prop} in
theorem Pass.q(O:EnvOk E){j:fC}{e a d:fS}{q:fH}(h:Pass E j e d q)(f:¬ E.al a e)(h1:E.at_ a j)(c:∀(j:fC) r,E.P[j]?=eV r->W (place r)/\W (end2 r))(g:W e):∀p∈q,¬ E.al p.1 p.2/\W p.1/\W p.2:=by
 let key:∀{r:fJ},E.P[j]?=eV r->¬ E.al (place r) e/\W (place r)/\W e:=λ{r} b=>#[λz=>f (O.tr _ _ _ (O.at_ _ _ _ h1 b) z),(c _ _ b).1,g]
 cases h with
 |cell b _=>intro p hp;rw[Ae.mp hp];exact key b
 |own b _=>intro p hp;cases hp
 |on b _ hl =>
  intro p hp;rcases Ak.mp hp with z|z;rw[z];exact key b
  cases hl with|nil=>cases z|full=>cases z|ask g0 g1 g2 g3=>rw[Ae.mp z];exact#[O.ne _ _ _ g1 g3 g2,c _ _ g3]
variable{E:Env}{W:fS->Prop} in
theorem StrR.q(O:EnvOk E){e a:fS}{tk c:eZ fC}{q:fH}(h:StrR E e tk a c q)(b:∀(j:fC) r,E.P[j]?=eV r->W (place r)/\W (end2 r))(d:W e):∀p∈q,¬ E.al p.1 p.2/\W p.1/\W p.2:=by
 induction h with
 |nil=>intro p hp;cases hp
 |cons h h1 h2 h3 _ ih =>
  intro p hp;rcases Ab.mp hp with z|z;exact h3.q O h h1 b d p z;exact ih p z
variable{E:Env}{W:fS->Prop} in
theorem RowsR.q(O:EnvOk E){tk:eZ fC}{rs:fG}{a:eZ (eZ fC)}{q:fH}(h:RowsR E tk rs a q)(c:∀(j:fC) r,E.P[j]?=eV r->W (place r)/\W (end2 r))(b:∀r∈rs,W (end2 r)):∀p∈q,¬ E.al p.1 p.2/\W p.1/\W p.2:=by
 induction h with
 |nil=>intro p hp;cases hp
 |cons h _ ih =>
  intro p hp;rcases Ab.mp hp with z|z
  . let d:=b _ (Af ..);cases h with|cell=>cases z|str g=>exact g.q O c d p z|tree=>cases z
  exact ih (λr e=>b r (Ag _ e)) p z
end
end Fol
namespace K37
open L2 Mir Kn
def mz(F P G S:fG):Prop:=∀(v:fS->fB) (m:Fol.Mem),v "nil"=0->m 0=eW->(∃D,Fol.Fits v m F P D)->∃R,Fol.Fits v m G S R
theorem pu(h:(mmOf F P).num x=eV j):j∈neOf F P/\fq F (place (P.getD j []))=fq F x:=by
 let h1:=Bj h;let h2:=Cy h;exact#[h1,by simpa using h2]
theorem al_iff:(mmOf F P).al a b=eX↔fq F a=fq F b:=by show decide _=eX↔_;exact decide_eq_true_iff
theorem aew(hF:∀r∈F,i5 r):Fol.EnvOk (mmOf F P).env:=by
 refine#[λa b c h1 h2=>al_iff.mpr ((al_iff.mp h1).trans (al_iff.mp h2)),λa b h=>al_iff.mpr (al_iff.mp h).symm,λx j r h d=>?_,λx j r h d f hz=>?_];let:=(pu h).2;rw[Fol.some_getD (show P[j]?=eV r from d)] at this;exact al_iff.mpr this.symm;let e:=(pu h).1;refine((kh d).mp e) #[λc=>f (full_iff.mpr (.inl (by rw[Fol.some_getD (show P[j]?=eV r from d)];exact c))),al_iff.mp hz]
theorem ze(h:Un F P y y):mz F P G S:=λv m a hm #[D,b]=>fF rfl (b.un a hm h)
theorem abc(hF:∀r∈F,i5 r)(c:v "nil"=0)(hm:m 0=eW)(h:Fol.Fits v m F P D):Fol.Sem v m (mmOf F P).env D:=by
 let al:∀a b,fq F a=fq F b->v a=v b:=λa b e=>h.conn ((j8 hF a b).mp e);refine#[c,hm,λa b e=>al a b (al_iff.mp e),h.tk,h.apart,λx j e=>?_,λj r f d=>?_,λj r d hn=>?_];let(h1,h2):=pu e;exact#[_,jc h1,al _ _ h2];let:=full_iff.mp f;rw[Fol.some_getD (show P[j]?=eV r from d)] at this;exact(h.tk j r d).head c (this.mono λa b u=>h.un c hm u);exact(h.tk j r d).head c (.inr hn)
theorem acy(h:Fol.Tr m x row)(a:x=0):row=[]:=by
 cases h with|nil=>rfl|node h1 _ _ _ _ _ _=>exact fF a h1
theorem a54(hF:∀r∈F,i5 r)(b:v "nil"=0)(h:Fol.Fits v m F P D)(c:P[j]?=eV r)(a:ks r (fq F) []):D j=[]:=by
 let e:v (place r)=v (end2 r):=h.conn ((j8 hF _ _).mp a.2);let t:=h.tk j r c;generalize D j=d at t;cases t with|cell=>exact fF rfl a.1|str g=>exact Fol.seg_nil g e|tree g=>exact acy g (e.trans b)
theorem zf(hF:∀r∈F,i5 r)(s:∀r∈S,PartRow r)(t:G.all (mt F)=eX)(g:Fol.rowsF (mmOf F P) [] S=.ok l q)(hd:dbt F P (ng G++q)=eW)(hl:∀j∈neOf F P,j∈l.flatten):mz F P G S:=λv m k hm #[D,e]=>by
 let un:∀p∈ng G++q,v p.1≠v p.2:=λp hp=>by
  let:=BA.mp hd p hp;refine e.un k hm (ulB_iff.mp ?_);cases hu:ulB F P p.1 p.2 with|true=>rfl|false=>rw[hu] at this;exact fF rfl this
 let n:=abc hF k hm e;let rows:=Fol.rowsF_ok (M:=mmOf F P) (λx i h=>#[_,jc (pu h).1]) s g;refine#[_,Fol.fits_of (F:=F) n rows (λp hp=>un p (Ab.mpr (.inr hp))) (λa b d=>?_) (λa b d=>?_) (λx c f=>e.whole x c f) λj x f #[r,g]=>?_];let:=Bo.mp t _ d;unfold mt at this;rw[fE (show([("is":fS),a,b]:fJ).getD 0 ""="is" from rfl)] at this;exact e.conn ((j8 hF a b).mp (fV this));refine un (a,b) (Ab.mpr (.inl (Cc.mpr #[_,d,?_])));rw[fD (show ¬ ([("not":fS),a,b]:fJ).getD 0 ""="is" from(by decide:¬ ("not":fS)="is"))];rfl
 let o:j∈neOf F P:=(kh g).mpr λw=>by
  rw[a54 hF k e g w] at f;cases f
 let(u,h1,h2):=Bz.mp (hl j o);exact#[u,h1,h2]
theorem yy(h:Fol.Fits v m F P D)(h1:∀a b,r=[("is":fS),a,b]->v a=v b)(h2:∀a b,r=[("not":fS),a,b]->v a≠v b):Fol.Fits v m (F++[r]) P D :=
 #[λa b c=>by
  rcases Ab.mp c with z|z;exact h.is_ a b z;exact h1 a b (Ae.mp z).symm,λa b c=>by
  rcases Ab.mp c with z|z;exact h.not_ a b z
  exact h2 a b (Ae.mp z).symm,h.tk,h.apart,h.whole]
theorem a7m(h:Fol.Fits v m (F++[r]) P D):Fol.Fits v m F P D :=
 #[λa b c=>h.is_ a b (Ab.mpr (.inl c)),λa b c=>h.not_ a b (Ab.mpr (.inl c)),h.tk,h.apart,h.whole]
theorem zj(h1:mz (F++[[("is":fS),a,b]]) P G S)(h2:mz (F++[[("not":fS),a,b]]) P G S):mz F P G S:=λv m d hm #[D,f]=>by
 by_cases c:v a=v b;exact h1 v m d hm #[D,yy f (λx y e=>by cases e;exact c) (λx y e=>by cases e)];exact h2 v m d hm #[D,yy f (λx y e=>by cases e) (λx y e=>by cases e;exact c)]
theorem a9o(hF:∀r∈F,i5 r)(n:∀r∈S,PartRow r)(hG:∀r∈G,i5 r)(s:G.all (mt F)=eX){a:eZ (eZ fC)}{q:fH}(m:Fol.rowsF (mmOf F P) [] S=.ok a q){p:fS×fS}(hd:dbt F P (ng G++q)=eV p){W:fS->Prop}(t:∀r∈P,W (place r)/\W (end2 r))(l:∀r∈S,W (end2 r))(d:∀r∈G,∀x∈r.drop 1,W x):¬ Conn F p.1 p.2/\¬ Un F P p.1 p.2/\W p.1/\W p.2:=by
 let hm:=Bj hd;let b:¬ Un F P p.1 p.2:=λu=>by
  let:=Cy hd;rw[ulB_iff.mpr u] at this;cases this
 let rows:=Fol.rowsF_ok (M:=mmOf F P) (λx i h=>#[_,jc (pu h).1]) n m;rcases Ab.mp hm with z|z;let(r,h1,h2):=Cc.mp z;let(k,u,v,rfl,w):=hG r h1;let h3:=Bo.mp s _ h1;unfold mt at h3;by_cases c:([k,u,v]:fJ).getD 0 ""="is";rw[fE c] at h2;cases h2;rw[fD c] at h2 h3;let e:p=(u,v):=(Am h2).symm;rw[e];refine#[λz=>?_,by rw[e] at b;exact b,d _ h1 u (Af ..),d _ h1 v (Ag _ (Af ..))];let o:alB F u v=eX:=fU ((j8 hF u v).mpr z);let f:(!alB F u v)=eX:=h3;rw[o] at f;cases f
 let(h1,h2):=rows.q (aew hF) (W:=W) (λj r g=>t r (Ar g)) l p z;exact#[λc=>h1 (al_iff.mpr ((j8 hF _ _).mpr c)),b,h2]
theorem og(hn:(cs.map (·.1)).Nodup):gq cs a=eV (f,s)↔(a,f,s)∈cs:=by
 constructor
 . intro h;unfold gq at h;cases hf:cs.find? (λc=>decide (c.1=a)) with
   |none=>rw[hf] at h;cases h
   |some c =>
    rw[hf] at h;let h1:c.1=a:=by simpa using Cy hf
    let h2:c.2=(f,s):=Am h;let:=Bj hf;rw[<- h1,<- h2];exact this
 exact u8 hn
theorem Rdx.pm(R:Rdx F P d kv)(b:j∈neOf F P)(a:P[j]?=eV r):∃c,gq (iu kv ((d.length:fB)+1) eW P (neOf F P)) (vI kv (place r))=eV c:=by
 let X:=R.ex;let hd:=R.dP _ (Ar a);cases hd with|cell=>exact#[_,X.cell j b _ _ _ a]|str=>exact#[_,(X.str j b _ _ a).1]|tree=>exact#[_,(X.tree j b _ a).1]
theorem Rdx.first(R:Rdx F P g kv)(t:P.length<=15)(dS:∀r∈S,Fol.PartD (Dom g) r)(hG:∀r∈G,i5 r)(dG:∀r∈G,∀x∈r.drop 1,Dom g x)(h:Fol.Fits (vI kv) (gq (iu kv ((g.length:fB)+1) eW P (neOf F P))) G S w):
 G.all (mt F)=eX/\((∃b q,Fol.rowsF (mmOf F P) [] S=.ok b q/\∀j∈neOf F P,j∈b.flatten)\/∃i j a e,Fol.rowsF (mmOf F P) [] S=.amid i j/\S[i]?=eV [("stretch":fS),a,e]/\Fol.Amid (mmOf F P) (vI kv) (neOf F P) (w i) e j):=by
 let X:=R.ex;constructor;rw[Bo];intro r f;let(k,u,v,rfl,l):=hG r f;let m:=dG _ f u (Af ..);let dv:=dG _ f v (Ag _ (Af ..));unfold mt;rcases l with rfl|rfl;rw[fE (show([("is":fS),u,v]:fJ).getD 0 ""="is" from rfl)];exact fU ((R.vi m dv).mp (h.is_ _ _ f));rw[fD (show ¬ ([("not":fS),u,v]:fJ).getD 0 ""="is" from(by decide:¬ ("not":fS)="is"))];let:alB F u v=eY:=fT λz=>h.not_ _ _ f ((R.vi m dv).mpr z);show(!alB F u v)=eX;rw[this];rfl
 rcases Fol.rowsF_fit X t h dS S 0 [] (λi=>by rw[Ft]) (λk r _ _ j d=>(Aq d).elim) #[Bh,λj d=>(Aq d).elim] with⟨b,q,h1,_,h2⟩|⟨i,j,a,e,h1,h2,h3⟩
 . refine .inl #[b,q,h1,λj d=>?_];let(c,o):=R.pm d (jc d);let(k,r,l,n):=h.whole _ _ o;let(s,g1,p):=h2 k r (AF _) l j d _ (jc d) n;exact Bz.mpr #[s,g1,p]
 rw[Ft] at h2 h3;exact .inr #[i,j,a,e,h1,h2,h3]
theorem a9b(h:(mmOf F P).num x=eW):∀j∈neOf F P,fq F (place (P.getD j []))≠fq F x:=λj a e=>BA.mp h j a (fU e)
theorem ac4(b:Dom a e)(h:(mmOf F P).num e=eW):AmOk F P a (eV (j,e)):=λk c z=>by
 cases z;exact#[b,a9b h]
theorem u9(h:j≠k):jm kv bs (eV (j,e)) P k=jm kv bs eW P k:=by
 unfold jm;rw[show s0F kv bs (eV (j,e)) k=s0F kv bs eW k from fD h]
theorem Rdx.moved(R:Rdx F P a kv)(u:j∈neOf F P)(A:P[j]?=eV [("stretch":fS),p,q])(w:Dom a e)(hn:(mmOf F P).num e=eW):Fol.Moved (vI kv) (gq (iu kv ((a.length:fB)+1) eW P (neOf F P))) (gq (iu kv ((a.length:fB)+1) (eV (j,e)) P (neOf F P))) ((a.length:fB)+1) (s0N a j) p q e:=by
 let hA:=ac4 (j:=j) w hn;let g:=R.places hA;let o:=R.places (am:=eW) a0w;let n1:=lz g;let B:=lz o;let v:P.getD j []=[("stretch":fS),p,q]:=Fol.some_getD A;let m:jm kv ((a.length:fB)+1) (eV (j,e)) P j=[(vI kv p,(a.length:fB)+1,vI kv e),(vI kv e,(a.length:fB)+1,vI kv q)]:=by
  unfold jm;rw[v,show s0F kv ((a.length:fB)+1) (eV (j,e)) j=vI kv e from fE rfl];rfl
 let y:jm kv ((a.length:fB)+1) eW P j=[(vI kv p,(a.length:fB)+1,s0N a j),(s0N a j,(a.length:fB)+1,vI kv q)]:=by
  unfold jm;rw[v];rfl
 let mem:∀{am:fA (fC×fS)} {c:fB×fB×fB},c∈iu kv ((a.length:fB)+1) am P (neOf F P)↔∃i∈neOf F P,c∈jm kv ((a.length:fB)+1) am P i:=λ{am c}=>by
  unfold iu;rw[Bz];constructor;rintro⟨l,hl,h⟩;let(i,hi,rfl):=As.mp hl;exact#[i,hi,h];rintro⟨i,hi,h⟩;exact#[_,As.mpr #[i,hi,fR],h]
 refine#[?_,?_,?_,λx k n t=>?_];exact(og n1).mpr (mem.mpr #[j,u,by rw[m];exact Af ..]);exact(og n1).mpr (mem.mpr #[j,u,by rw[m];exact Ag _ (Af ..)])
 . cases hz:gq (iu kv ((a.length:fB)+1) (eV (j,e)) P (neOf F P)) (s0N a j) with
   |none=>rfl
   |some c =>
    let(i,hi,d):=mem.mp ((og n1).mp hz);exfalso;let h1:=sv (As.mpr #[_,d,fR]);let h2:=g.lt i hi;let h3:vI kv e<(a.length:fB)+1:=(R.lt w).2;simp only at h1;let C:s0N a j=(a.length:fB)+1+2*(j:fB)+1:=rfl;by_cases b:j=i
    . let r:s0F kv ((a.length:fB)+1) (eV (j,e)) i=vI kv e:=fE b;rw[r] at h1
      lia
    let r:s0F kv ((a.length:fB)+1) (eV (j,e)) i=(a.length:fB)+1+2*(i:fB)+1:=fD b;rw[r] at h1
    lia
 let key:∀f s,gq (iu kv ((a.length:fB)+1) (eV (j,e)) P (neOf F P)) x=eV (f,s)↔gq (iu kv ((a.length:fB)+1) eW P (neOf F P)) x=eV (f,s):=λf s=>by
  rw[og n1,og B,mem,mem];constructor
  . rintro⟨i,hi,d⟩;by_cases b:j=i;subst b;rw[m] at d;rcases Ak.mp d with z|z;exact fF (fX EI z) k;exact fF (fX EI (Ae.mp z)) n
    exact#[i,hi,by rw[<- u9 (kv:=kv) (P:=P) (e:=e) b];exact d]
  rintro⟨i,hi,d⟩;by_cases b:j=i;subst b;rw[y] at d;rcases Ak.mp d with z|z;exact fF (fX EI z) k;exact fF (fX EI (Ae.mp z)) t
  exact#[i,hi,by rw[u9 (kv:=kv) (P:=P) (e:=e) b];exact d]
 cases h1:gq (iu kv ((a.length:fB)+1) (eV (j,e)) P (neOf F P)) x with
 |some c=>exact((key c.1 c.2).mp h1).symm
 |none =>
  cases h2:gq (iu kv ((a.length:fB)+1) eW P (neOf F P)) x with|none=>rfl|some c=>rw[(key c.1 c.2).mpr h2] at h1;cases h1
theorem acr(ok:NumOk h f kv):∃m,kg kv (Sum.inr "nil")=Cv.dv m/\Cv.num m=vI kv/\∀x∈f,x≠"nil" -> (Cv.lkI m x).isSome=eX:=by
 let ent:∀l:eZ (Key×V),EntI l->∃m,l=Cv.dv m:=λl=>by
  induction l with
  |nil=>intro _;exact#[[],fR]
  |cons p l ih =>
   intro hl;let(m,hm):=ih λq b=>hl q (Ag _ b);let(x,n,hp):=hl p (Af ..);exact#[(x,n)::m,by rw[hp,hm];rfl]
 let(m,hm):=ent (kg kv (Sum.inr "nil")) λq b=>ok.ents q (Bc.mp b).1;let e:∀x:fS,x≠"nil" -> (Cv.lkI m x).map V.int=valV kv (Sum.inr x):=λx d=>by
  rw[<- Cv.valV_dv,<- hm];let:∀l:eZ (Key×V),valV (kg l (Sum.inr ("nil":fS))) (Sum.inr x)=valV l (Sum.inr x):=λl=>by
   induction l with
   |nil=>rfl
   |cons p l ih =>
    unfold kg at ih |-;rw[Dt];by_cases c:p.1=Sum.inr ("nil":fS);rw[fD (by simp[c]),ih,iw (λz=>d (BR (z.symm.trans c)))]
    rw[fE (by simp[c])];by_cases a:p.1=Sum.inr x;rw[il a,il a];rw[iw a,iw a,ih]
  exact this kv
 refine#[m,hm,?_,λx d hn=>?_]
 . funext x
   unfold Cv.num vI;by_cases c:x="nil";rw[fE c,c,ok.nil];rfl;rw[fD c,<- e x c];cases Cv.lkI m x<;>rfl
 let:=ok.at_ x (.inr d);rw[<- e x hn] at this;cases hz:Cv.lkI m x with|some n=>rfl|none=>rw[hz] at this;cases this
abbrev a3p:JA:=top 27
abbrev a2t:JA:=top 28
theorem ac0:la (CXE P w base) X E0:=λ_ _ _ _ _ _ _ h=>by
 let(a,cls,b,H',B,_,_,_,_,_,_,_,_,_,_,_,h):=h;exact h.elim
structure Rdw(F P:fG)(ws:fJ):Prop where
 hF:∀r∈F,i5 r
 dF:∀r∈F,∀x∈r.drop 1,Dom ws x
 dP:∀r∈P,Fol.PartD (Dom ws) r
 any:¬ Dom ws "any"
 nocl:∀y,¬ Un F P y y
 rdy:∀(j:fC) r,P[j]?=eV r->¬ ks r (fq F) []->¬ ly F P (neOf F P) j r
theorem Rdw.x(R:Rdw F P a)(h:NumOk (fq F) a kv):Rdx F P a kv:=#[R.hF,h,R.dF,R.dP,R.any,R.nocl,R.rdy]
structure Oth(G S:fG)(ws:fJ):Prop where
 hG:∀r∈G,i5 r
 dG:∀r∈G,∀x∈r.drop 1,Dom ws x
 dS:∀r∈S,Fol.PartD (Dom ws) r
 sG:ju G
 sS:ju S
 w:∀y∈ii (G++S),y∈ws/\y≠"nil"
 six:S.length<=6
 gl:G.length<=100
def StAt(K:Aa)(H:Hp)(t:IS)(F P G S:fG)(ws:fJ):Prop:=∃(d h:IS) (m:eZ (fS×fB)) (cs:ig),H t=eV (.tup [.str "state",.ref d,.ref h])/\H d=eV (.dK (Cv.dv m))/\Cv.HeapAt K H h cs/\(cs.map (·.1)).Nodup/\(cs.length<=100/\m.length<=100)/\(∀x∈ws,x≠"nil" -> (Cv.lkI m x).isSome=eX)/\(∃D,Fol.Fits (Cv.num m) (gq cs) F P D)/\¬ ∃R,Fol.Fits (Cv.num m) (gq cs) G S R
theorem n7{a:fJ}(h:∀x∈a,x≠"nil" -> (Cv.lkI m x).isSome=eX)(b:Dom a x):Cv.Has m x:=by
 by_cases c:x="nil";exact .inl c;exact .inr (h x (b.resolve_left c) c)
theorem ady:∀{l m:fJ},l.Nodup->(∀x∈l,x∈m)->l.length<=m.length:=λh1 h2=>Cv.nd_lenG h1 h2
theorem Oth.tell(O:Oth G S d)(j:d.length<=60)(h:∀x∈d,x≠"nil" -> (Cv.lkI m x).isSome=eX):Cv.TellR m G S:=by
 refine#[O.sG,O.sS,λi hn g=>?_,λy c=>h y (O.w y c).1 (O.w y c).2,λr b=>?_,λr b=>?_,O.six]
 . let:=ady hn λy c=>(O.w y (g y c)).1
   lia
 . let(k,u,v,rfl,_):=O.hG r b;exact#[k,u,v,fR,n7 h (O.dG _ b u (Af ..)),n7 h (O.dG _ b v (Ag _ (Af ..)))]
 cases O.dS r b with|cell a f s=>exact .inl #[_,_,_,fR,n7 h a,f.imp id (n7 h),s.imp id (n7 h)]|str a e=>exact .inr (.inl #[_,_,fR,n7 h a,n7 h e])|tree a=>exact .inr (.inr #[_,fR,n7 h a])
theorem T2At.tell(h:T2At K H t G S):TellAt K H t [G,S]:=by
 let(a,b,h1,h2,h3):=h;exact#[[a,b],h1,.cons h2 (.cons h3 .nil)]
inductive spShowsAS(K:Aa)(vs:eZ V)(H:Hp)(Q:VK):Prop
 |mk (t o d h:IS)(m:eZ (fS×fB))(cs:ig)(G S:fG)(h0:vs=[.ref t,.ref o,.bl eX])(h1:H t=eV (.tup [.ref d,.ref h]))(h2:H d=eV (.dK (Cv.dv m)))(h3:Cv.HeapAt K H h cs)(h4:cs.length<=600)(h5:T2At K H o G S)(h6:Cv.TellR m G S)(h7:∀H',Same H H'->Q (.bl (!Cv.fitsB m cs G S)) H'):spShowsAS K vs H Q
def a0j(K:Aa):Sp:=λvs H Q _=>spShowsAS K vs H Q
inductive spStateAS(K:Aa)(C C2:IS)(vs:eZ V)(H:Hp)(Q:VK):Prop
 |mk (q nl o td:IS)(G0:Hp)(F P G S:fG)(tk:eZ fC)(dq:fH)(am:fA (fC×fS))(ws:fJ)(h0:vs=[.ref q,.ref nl,.ref o,.bl eX])(h1:TkAt K C C2 G0 H q td F P tk dq am)(h2:H nl=eV (.lst (ws.map V.str)))(h3:ws.length<=60)(h4:T2At K H o G S)(h5:Rdw F P ws)(h6:P.length<=15)(h7:Oth G S ws)(h8:(∀kv Rr,NumOk (fq F) ws kv->Fol.Fits (vI kv) (gq (iu kv ((ws.length:fB)+1) eW P (neOf F P))) G S Rr->∃i j a e,am=eV (j,e)/\S[i]?=eV [("stretch":fS),a,e]/\Fol.Amid (mmOf F P) (vI kv) (neOf F P) (Rr i) e j))(h9:∀t' H',Same H H'->StAt K H' t' F P G S ws->Q (.ref t') H'):spStateAS K C C2 vs H Q
def sg(K:Aa)(C C2:IS):Sp:=λvs H Q _=>spStateAS K C C2 vs H Q
theorem a5r(F:Fun K "shows_against" "shows_against" a3p f fd)(u:FnOk P w K mg base (CXE P w base) 6 p dF eS (Cv.spFits K))(a:eQ u "fits")(i:FnOk P w K mg base (CXE P w base) 5 v B eT (Cv.spCover K))(c:eQ i "cover"):FnOk P w K mg base CX0 7 f fd ["state","other","whole"] (a0j K):=by
 refine F.okA ["state","other","whole"] λk A outer s0 H vs Q E g h _=>?_;let(t,o,d,h,m,cs,z,l,rfl,e,hd,x,r,n,s,q):=h;let b:=g.mono (j:=5) (by lia);exists _,fc (gg (j5 (qv 2)) (ff (fx (a6r (oz u g rfl a.name a.keep a.bind .nil ac0 (ft (fi K (qv 0) dl) (ft (fi K (qv 0) dl) (fg (qv 1) fb))))))) gd)
  (ff (fx (j7 lu (oz i b rfl c.name c.keep c.bind .nil ac0 (ft (fi K (qv 0) dl) (ft (fi K (qv 0) dl) (fg (qv 1) fb)))) gu (fm _))))
 nofun
 exists _,fR,_,rfl;refine#[_,fR,t,_,0,.ref d,fR,fR,SqT.of e,fR,_,fR,t,_,1,.ref h,fR,fR,SqT.of e,fR,_,fR,d,h,o,m,cs,z,l,fR,hd,x,r,n.tell,s,λC y=>?_];exact#[_,fR,q C y]
theorem fN:3<=IR:=by decide
theorem a6w(T2:TTxt K mg C2 aK)(F:Fun K "state_against" "state_against" a2t f fd)(GO:FnOk P w K mg base CX0 3 gO dO eS (yk K C))(cO:eQ GO "state_of")(GA:FnOk P w K mg base CX0 7 gA dA eT (a0j K))(cA:eQ GA "shows_against"):FnOk P w K mg base CX0 8 f fd ["taking","names","other","whole"] (sg K C C2):=by
 refine F.okA ["taking","names","other","whole","amid","state"] λaL A outer s0 H vs Q E u h nd=>?_;let(qa,nl,o,td,G0,g,k,Gs,Ss,tk,dq,am,l,rfl,hT,aw,hw,ho,hR,O,hO,aB,q):=h;let aM:=j4 u;let aD:=u.mono (j:=3) (by lia);exists _,fc (im A1 rfl (a74 (ij (jq lx (jq (gh (K:=K) rfl (qv 0)) fb)))) (ip 4 nd) (fc (fz 5 nd (gm GO aD cO (jq (gh (K:=K) rfl (qv 0)) (fg (qv 1) (fg (qv 4) fb)))))
  (ff (gg (j5 (gm GA u cA (fg (qv 5) (fg (qv 2) (fg (qv 3) fb))))) (ff (fx (ij (gw (ft (fi K (qv 5) dl) (ft (fi K (qv 5) dl) fb)))))) gd))))
  (ff (fx gu))
 nofun
 let(p,pd,da,dx,fs,dv,h1,h2,hG):=hT.ex;intro s ax;let s1:=fe ax (.dK []);let aN:=hT.same s1;refine#[_,fR,qa,C2,dx,fs,.ref da,fR,s1 _ _ h1,T2.cl,T2.nA,h2.amid,fK,λtt aH=>#[tt,fR,#[_,SqT.of ad],?_]];let s2:=fe aH (.tup [.ref s,.ref da]);let e2:=s1.trans s2;let al:(upd (upd H s (.dK [])) tt (.tup [.ref s,.ref da])) s=eV (.dK (amK eW)):=s2 _ _ ad;let ae:(upd (upd H s (.dK [])) tt (.tup [.ref s,.ref da])) da=eV (.dK (amK am)):=e2 _ _ hG.am;let ai:(upd (upd H s (.dK [])) tt (.tup [.ref s,.ref da])) tt=eV (.tup [.ref s,.ref da]):=ad;generalize upd (upd H s (.dK [])) tt (.tup [.ref s,.ref da])=H2 at e2 al ae ai |-;let X:∀{kv:eZ (Key×V)},NumOk (fq g) l kv->Rdx g k l kv:=λh=>hR.x h;let(pl,hd,un,fu,Dn,L,Fl,hK,hN,_):=hG.kw.ex;let eG:Same G0 H:=hT.sm;let aE:∀b,AmOk g k l b->∀kv,NumOk (fq g) l kv->(iu kv ((l.length:fB)+1) b k (neOf g k)).length<=45:=λb _ kv _=>by
  let h1:=u3 kv ((l.length:fB)+1) b k (neOf g k);let h2:=u4 (F:=g) O
  lia
 refine a3x (xs:=[.ref s,.ref da]) (λi σ H3=>Same H2 H3/\(∃z4 z5,σ=[rQ qa,rQ nl,rQ o,eV (.bl eX),z4,z5])/\i<=1/\(i=1->∃kv Y,NumOk (fq g) l kv/\kv=(numS (fq g) l).1/\Fol.Fits (vI kv) (gq (iu kv ((l.length:fB)+1) eW k (neOf g k))) Gs Ss Y))
  #[Same.refl _,#[eW,eW,fR],AF _,λz=>by cases z] (λi σ H3 _ pv=>SqT.of (pv.1 _ _ ai)) ?_ ?_
 . rintro i v σ H3 hv ⟨e3,⟨z4,z5,rfl⟩,aP,hi⟩
   nofun
   obtain⟨b,dm,rfl,au,hA,an⟩:∃b dm,v=.ref dm/\H2 dm=eV (.dK (amK b))/\AmOk g k l b/\∀kv,NumOk (fq g) l kv->kv=(numS (fq g) l).1->(∃D,Fol.Fits (vI kv) (gq (iu kv ((l.length:fB)+1) b k (neOf g k))) g k D)/\∀Y,Fol.Fits (vI kv) (gq (iu kv ((l.length:fB)+1) b k (neOf g k))) Gs Ss Y->i=0/\b=eW:=by
    match i,hv,hi with
    |0,hv,_ =>
     cases hv;exact#[eW,s,fR,al,a0w,λkv hk _=>#[#[_,Fol.Ex.fits (X hk).ex (X hk).says],λ_ _=>#[fR,fR]]]
    |1,hv,hi =>
     cases hv;let(ah,R1,ar,N,B):=hi rfl;let(i',j,a,e,ha,ag,n):=aB ah R1 ar B;let ab:Dom l e:=by
      let:=hO.dS _ (Ar ag);generalize u:[("stretch":fS),a,e]=r at this;cases this with|cell=>cases u|str _ z=>cases u;exact z|tree=>cases u
     let(p',q',U,g1,g2,g3):=n.ex;refine#[am,da,fR,ae,by rw[ha];exact ac4 ab n.num,λkv hk hf=>?_];obtain rfl:kv=ah:=hf.trans N.symm;let mv:=(X hk).moved n.jn U ab n.num;rw[ha];exact#[#[_,Fol.Ex.fits2 (X hk).ex (X hk).says n.jn U ab g1 g2 n.nil n.num mv],λY y=>(Fol.amid_no (X hk).ex B hO.dS ag n U mv y).elim]
   let I:=e2.trans e3;exists _,fR,qa,C2,dx,fs,.ref p,fR,I _ _ h1,T2.cl,T2.nK,h2.kn,_,fR,_,rfl;refine#[p,nl,dm,pl,hd,un,fu,Dn,g,k,L,neOf g k,l,b,fR,hK.same (eG.trans I),hN.same (eG.trans I),u4 O,I _ _ aw,by lia,e3 _ _ au,hA,λr u=>oi (hR.dP r u),o0,CW CL Ea,λj hj=>?_,λi hi j hj av z=>?_,λt d h kv hp H4 e4 aI aJ aO Z hok ap W ak ac=>?_]
   . let aa:=hR.dP _ (Ar (jc hj));refine#[lm aa,λhs=>?_];generalize k.getD j []=r at aa hs;cases aa with|cell=>cases hs|str _ z=>exact z|tree=>cases hs
   . exact hR.rdy i _ (jc hi) ((kh (jc hi)).mp hi) (.inl #[j,hj,AE av,_,jc hj,z])
   let(m,hm,T,J):=acr hok;let az:m.length<=100:=by
    let g1:(Cv.dv m).length=m.length:=Ad ..;let g2:(kg kv (Sum.inr ("nil":fS))).length<=kv.length:=B4 _ _;let g3:=hok.len;rw[hm] at g2
    lia
   rw[hm] at W;let(N,af):=an kv hok ap;let aj:=aE b hA kv hok;let M:=lz ((X hok).places hA);generalize hcs:iu kv ((l.length:fB)+1) b k (neOf g k)=cs at N af aj M ac;let ao:=I.trans e4;let aF:=hO.tell hw J;refine#[_,fR,_,fR,_,fR,t,o,d,h,m,cs,Gs,Ss,fR,Z,W,#[hp,ak,ac],by lia,ho.same ao,aF,λH5 e5=>#[_,fR,iteB (λc=>?_) (λc=>?_)]]
   . let aG:¬ ∃R,Fol.Fits (Cv.num m) (gq cs) Gs Ss R:=λz=>by
      let:=(Cv.fitsB_iff (m:=m) M hO.hG (λr u=>oi (hO.dS r u))).mpr z;rw[this] at c;cases c
     refine#[_,fR,t,_,0,.ref d,fR,fR,SqT.of (e5 _ _ Z),fR,_,fR,t,_,1,.ref h,fR,fR,SqT.of (e5 _ _ Z),fR,fN,λt6 aA=>?_];let s6:=fe aA (.tup [.str "state",.ref d,.ref h]);exact q t6 _ (ao.trans (e5.trans s6)) #[d,h,m,cs,ad,s6 _ _ (e5 _ _ W),Cv.HeapAt.same #[hp,ak,ac] (e5.trans s6),M,#[by lia,az],J,by rw[T];exact N,aG]
   let ay:Cv.fitsB m cs Gs Ss=eX:=by simpa using c
   let(Y,y):=(Cv.fitsB_iff (m:=m) M hO.hG (λr u=>oi (hO.dS r u))).mp ay;rw[T] at y;let(aq,aC):=af Y y;subst aq aC;exact#[e3.trans (e4.trans e5),#[_,_,fR],An _,λ_=>#[kv,Y,hok,ap,by rw[hcs];exact y]]
 rintro σ H3 ⟨_,_,hi,_⟩;exact fF hi (show ¬ 2<=1 by decide)
theorem a4x(hF:∀r∈F,i5 r)(nocl:∀y,¬ Un F P y y)(h:∀(j:fC) r,P[j]?=eV r->¬ ks r (fq F) []->¬ FullR (Un F P) r->¬ ly F P (neOf F P) j r)(c:P[j]?=eV r)(k:¬ ks r (fq F) []):¬ ly F P (neOf F P) j r:=by
 intro i;by_cases f:FullR (Un F P) r
 . rcases i with⟨l,e,b,s,a,d⟩|d
   . by_cases g:FullR (Un F P) s;let u:=(ke F P).two j l r s c a (AE b) f g;exact nocl _ ((ke F P).conn _ _ _ ((j8 hF _ _).mp d).symm u);exact h l s a ((kh a).mp e) g (.inl #[j,(kh c).mpr k,AE b,r,c,d.symm])
   let u:=(ke F P).nil r (Ar c) f;exact nocl _ ((ke F P).conn _ _ _ ((j8 hF _ _).mp d).symm u)
 exact h j r c k f i
theorem a6m(hF:∀r∈F,i5 r)(b:¬ ks r (fq F) [])(a:¬ FullR (Un F P) r):r.getD 0 ""≠"cell" /\ (¬ Conn F (place r) (end2 r))/\¬ Un F P (place r) (end2 r) :=
 #[λz=>a (.inl z),λc=>b #[λz=>a (.inl z),(j8 hF _ _).mpr c],λu=>a (.inr u)]
def prs:fJ->fH
 |[]=>[]
 |x::l=>l.map (λy=>(x,y))++prs l
theorem a2u:∀{l:fJ}{a b:fS},a∈l->b∈l->a≠b->(a,b)∈prs l\/(b,a)∈prs l
 |x::l,a,b,ha,hb,hne=>by
  rcases Ak.mp ha with rfl|d;rcases Ak.mp hb with z|c;exact fF z.symm hne;exact .inl (Ab.mpr (.inl (As.mpr #[b,c,fR])))
  rcases Ak.mp hb with rfl|c;exact .inr (Ab.mpr (.inl (As.mpr #[a,d,fR])));exact(a2u d c hne).imp (λz=>Ab.mpr (.inr z)) (λz=>Ab.mpr (.inr z))
theorem ad3:∀{l:fJ},l.length=6->(prs l).length<=15
 |[a,b,c,d,e,f],_=>by simp[prs]
def Open(F P:fG)(a b:fS):Prop := ¬ Conn F a b/\¬ Un F P a b
open Classical in
def cnt(F P:fG)(xs:fJ):fC:=(prs xs).countP λp=>decide (Open F P p.1 p.2)
theorem zd:∀{l:eZ α},(∀x∈l,q x=eX->p x=eX)->(∃x∈l,p x=eX/\q x=eY)->l.countP q<l.countP p
 |[],_,h=>by let(x,a,_):=h;cases a
 |y::l,h1,h2=>by
  let mono:l.countP q<=l.countP p:=List.countP_mono_left λx a=>h1 x (Ag _ a);let(x,a,hp,c):=h2;let d:=h1 y (Af ..);rw[HR,HR];rcases Ak.mp a with rfl|b;rw[hp,c];simp;lia
  let:=zd (l:=l) (λx a=>h1 x (Ag _ a)) #[x,b,hp,c];cases hqy:q y with|false=>simp;split<;>lia|true=>rw[d hqy];simp;lia
theorem yj(h:∀r∈F,r∈d)(c:Conn F a b):Conn d a b:=by
 induction c with|refl x=>exact .refl x|fact hf=>exact .fact (h _ hf)|symm _ ih=>exact ih.symm|trans _ _ i1 i2=>exact i1.trans i2
theorem adg(h:∀r∈F,r∈g)(u:Un F P a b):Un g P a b:=λR C=>u R #[λu v e=>C.fact u v (h _ e),C.symm,λa b c d f=>C.conn a b c (yj h d) f,C.nil,C.two]
open Classical in
theorem a8a{k:fS}(i:k="is" \/ k="not")(hp:p∈xs)(m:q∈xs)(f:Open F P p q):cnt (F++[[k,p,q]]) P xs<cnt F P xs:=by
 let a:∀r∈F,r∈F++[[k,p,q]]:=λr l=>Ab.mpr (.inl l);let e:[k,p,q]∈F++[[k,p,q]]:=Ab.mpr (.inr (Ae.mpr rfl));let g:p≠q:=λz=>f.1 (z ▸ .refl p);let h:Open F P q p:=#[λc=>f.1 c.symm,λu=>f.2 ((ke F P).symm _ _ u)]
 let d:¬ Open (F++[[k,p,q]]) P p q:=λz=>by
  rcases i with rfl|rfl;exact z.1 (.fact e);exact z.2 ((ke _ _).fact _ _ e)
 let b:¬ Open (F++[[k,p,q]]) P q p:=λz=>d #[λc=>z.1 c.symm,λu=>z.2 ((ke _ _).symm _ _ u)];unfold cnt;refine zd (λx _ j=>?_) ?_;let:=fV j;exact fU #[λc=>this.1 (yj a c),λu=>this.2 (adg a u)]
 rcases a2u hp m g with z|z;exact#[_,z,fU f,fT d];exact#[_,z,fU h,fT b]
abbrev a1m:JA:=top 29
abbrev a1f:JA:=top 30
abbrev abu:JA:=top 31
abbrev yz:JA:=top 32
structure Gd(xs ws:fJ)(F P G S:fG):Prop where
 facts:∀r∈F,i5 r
 dF:∀r∈F,∀x∈r.drop 1,Dom ws x
 dP:∀r∈P,Fol.PartD (Dom ws) r
 any:¬ Dom ws "any"
 len:P.length<=15
 oth:Oth G S ws
 wx:∀x,Dom ws x->x∈xs
 wl:ws.length<=60
theorem Gd.parts(h:Gd xs b F P G S):∀r∈P,PartRow r:=λr a=>oi (h.dP r a)
theorem Gd.more(h:Gd xs c F P G S)(i:i5 [k,a,b])(g:Dom c a)(f:Dom c b):Gd xs c (F++[[k,a,b]]) P G S :=
 #[λs d=>by
  rcases Ab.mp d with z|z;exact h.facts s z;rw[Ae.mp z];exact i,λs d=>by
  rcases Ab.mp d with z|z;exact h.dF s z
  rw[Ae.mp z];intro x e;rcases Ak.mp e with rfl|e;exact g
  rw[Ae.mp e];exact f,h.dP,h.any,h.len,h.oth,h.wx,h.wl]
def PaperAt(H:Hp)(t:IS):Prop:=∃z ys,H t=eV (.tup [.str "paper",.ref z])/\H z=eV (.tup ys)
theorem PaperAt.same(h:PaperAt H t)(e:Same H H'):PaperAt H' t:=by
 let(z,ys,h1,h2):=h;exact#[z,ys,e _ _ h1,e _ _ h2]
inductive AnsAt(K:Aa)(H:Hp)(t:IS)(F P G S:fG)(ws:fJ):Prop
 |paper (h:PaperAt H t)(f:mz F P G S)
 |state (h:StAt K H t F P G S ws)
inductive spShownS(K:Aa)(n:fC)(vs:eZ V)(H:Hp)(Q:VK):Prop
 |mk (o t nl:IS)(xs ws:fJ)(F P G S:fG)(h0:vs=[.ref o,.ref t,.ref nl,.bl eX])(h1:T2At K H o F P)(h2:T2At K H t G S)(h3:H nl=eV (.lst (ws.map V.str)))(h4:Gd xs ws F P G S)(h5:F.length+n<=90)(h6:cnt F P xs<=n)(h7:∀t' H',Same H H'->AnsAt K H' t' F P G S ws->Q (.ref t') H'):spShownS K n vs H Q
def ur(K:Aa)(n:fC):Sp:=λvs H Q _=>spShownS K n vs H Q
inductive spSplitS(K:Aa)(n:fC)(vs:eZ V)(H:Hp)(Q:VK):Prop
 |mk (o t nl pr:IS)(xs ws:fJ)(F P G S:fG)(a b:fS)(h0:vs=[.ref o,.ref t,.ref nl,.bl eX,.ref pr])(h1:T2At K H o F P)(h2:T2At K H t G S)(h3:H nl=eV (.lst (ws.map V.str)))(h4:Gd xs ws F P G S)(h5:F.length+n<=90)(h6:cnt F P xs<=n)(h7:H pr=eV (.tup [.str a,.str b]))(h8:Dom ws a)(h9:Dom ws b)(h10:Open F P a b)(h11:∀t' H',Same H H'->AnsAt K H' t' F P G S ws->Q (.ref t') H'):spSplitS K n vs H Q
def xn(K:Aa)(n:fC):Sp:=λvs H Q _=>spSplitS K n vs H Q
def wd2(i:fC):fS:=if i=0 then "is" else "not"
theorem aa0(F:Fun K "split_paper" "split_paper" a1m f fd)(GS:FnOk P w K mg base CX0 m gS dSnn eS (ur K n))(cS:eQ GS "shown"):FnOk P w K mg base CX0 (m+1) f fd ["one","other","names","whole","pair"] (xn K (n+1)):=by
 refine F.okA ["one","other","names","whole","pair","answers","word","answer"] λaH A outer s0 H vs Q E hr h nd=>?_;let(o,t,nl,pr,xs,ws,Fs,Ps,Gs,Ss,a,b,rfl,(fa,pa,ho,av,ap),ht,ao,hG,aI,aJ,ab,ha,hb,al,q):=h;let aj:=j4 hr;exists _,fc (fz 5 nd (ie fb))
  (fc (im A1 rfl (a74 (ij (gw (gw fb)))) (ip 6 nd) (fc (fz 7 nd (gm GS hr cS (mx (j9 (fj lc (fi K (qv 0) dl) (ie (mx (fg (qv 6) (ft (fi K (qv 4) dl) (ft (fi K (qv 4) dl) fb))) fb))) (ft (fi K (qv 0) dl) fb)) (fg (qv 1) (fg (qv 2) (fg (qv 3) fb))))))
  (fc (gg (QW.qt (j6 (fo xf (qv 7) gu (fm _)) (je (fo gk (fi K (qv 7) dl) gj (fm _))))) (ff (fx (qv 7))) gd)
  (ff (ia (jv (K:=K) rfl A8 AO AQ ji (qv 5) (fg (qv 7) fb)))))))
  (fc (gg (fo (a9c (K:=K) rfl aj) gu (qv 5) (by with_unfolding_all rfl)) (ff (fx gu)) gd)
  (ff (fx (ij (gw (mx (gw (ft (fi K (qv 4) dl) (ft (fi K (qv 4) dl) (ft (fi K (gr K (qv 5) dl) dl) (ft (fi K (gr K (qv 5) dl) dl) fb))))) fb)))))))
 nofun
 refine#[fM,λD hD=>?_];let s1:=fe hD (.lst []);refine#[fK,λtt ag=>?_];let s2:=fe ag (.tup [.str "is",.str "not"]);let an:D≠tt:=gc ad ag;exists tt,fR,#[_,SqT.of ad];let(j,az,W):=av;let aO:=A3 W;refine a3x (xs:=[.str "is",.str "not"]) (λi σ e=>∃(r:eZ IS) (T z2:fA V),σ=[rQ o,rQ t,rQ nl,eV (.bl eX),rQ pr,rQ D,T,z2]/\Same H e/\e tt=eV (.tup [.str "is",.str "not"])/\e D=eV (.lst (r.map V.ref))/\r.length=i/\(∀t∈r,PaperAt e t)/\∀k,k<i->mz (Fs++[[wd2 k,a,b]]) Ps Gs Ss)
  #[[],eW,eW,fR,s1.trans s2,ad,s2 _ _ ad,fR,λt h=>(Aq h).elim,λk J=>fF J (FF _)] (λi σ e _ pv=>by let(_,_,_,_,_,h,_):=pv;exact SqT.of h) ?_ ?_
 . rintro i v σ e hv ⟨r,T,z2,rfl,M,Y,g,L,p,x⟩
   nofun
   obtain⟨k,rfl,J⟩:∃k:fS,v=.str k/\k=wd2 i:=by
    match i,hv with
    |0,hv=>cases hv;exact#[_,fR,fR]
    |1,hv=>cases hv;exact#[_,fR,fR]
   let ak:=J
   replace J:k="is" \/ k="not" := by
    rw[J];unfold wd2;by_cases c:i=0;rw[fE c];exact .inl rfl;rw[fD c];exact .inr rfl
   let aK:i<2:=(Ao.mp hv).1;let aq:SqT K e o [.ref fa,.ref pa]:=M.seqT ho;let d:SqT K e pr [.str a,.str b]:=SqT.of (M _ _ ab);refine#[_,fR,o,_,0,.ref fa,fR,fR,aq,fR,_,fR,_,fR,pr,_,0,.str a,fR,fR,d,fR,_,fR,pr,_,1,.str b,fR,fR,d,fR,fN,λs ax=>?_];let U:=fe ax (.tup [.str k,.str a,.str b]);refine#[fL,λl4 am=>?_];let I:=fe am (.lst [.ref s]);let af:=I _ _ (ad (H:=e) (a:=s) (o:=.tup [.str k,.str a,.str b]));refine#[fa,l4,_,_,fR,fR,I _ _ (U _ _ (M _ _ az)),ad,?_,λl5 aB=>?_];rw[Ad,Av];exact jt (show j.length+1<=1000 by lia)
   let s5:=fe aB (.lst (j.map V.ref++[.ref s]));let e5:=M.trans (U.trans (I.trans s5));let X:=U.trans (I.trans s5);let ae:=s5 _ _ af;let B:=ad (H:=upd (upd e s (.tup [.str k,.str a,.str b])) l4 (.lst [.ref s])) (a:=l5) (o:=.lst (j.map V.ref++[.ref s]));generalize upd (upd (upd e s (.tup [.str k,.str a,.str b])) l4 (.lst [.ref s])) l5 (.lst (j.map V.ref++[.ref s]))=H5 at e5 X ae B |-;refine#[_,rfl,o,_,1,.ref pa,rfl,rfl,e5.seqT ho,rfl,fK,λo6 aF=>?_];let s6:=fe aF (.tup [.ref l5,.ref pa]);let Z:=e5.trans s6;let au:i5 [k,a,b]:=#[k,a,b,fR,J]
   let T6:T2At K (upd H5 o6 (.tup [.ref l5,.ref pa])) o6 (Fs++[[k,a,b]]) Ps:=by
    refine#[l5,pa,SqT.of ad,#[j++[s],?_,?_],ap.same Z];rw[s6 _ _ B,Ax];rfl;refine Paired.app (kx Z W) (.cons ?_ .nil);exact SqT.of (s6 _ _ ae)
   let aP:=a8a J (hG.wx _ ha) (hG.wx _ hb) al;refine#[_,fR,_,fR,_,fR,o6,t,nl,xs,ws,Fs++[[k,a,b]],Ps,Gs,Ss,fR,T6,ht.same Z,Z _ _ ao,hG.more au ha hb,(by rw[Aj,Av];lia),(by lia),λt7 H7 e7 p7=>?_];let O:=X.trans (s6.trans e7);let ac:=Z.trans e7;rcases p7 with⟨⟨zz,ys,l,N⟩,aG⟩|⟨d7,h7,m7,ai,l,N,aD,ah,aE,ar,⟨D7,aC⟩,aA⟩
   rotate_left
   . exists _,fR,fR,_,rfl;exists _,fR,t7,_,0,.str "state",fR,fR,SqT.of l,fR,fR,_,rfl;exact#[_,fR,q t7 H7 ac (.state #[d7,h7,m7,ai,l,N,aD,ah,aE,ar,#[D7,a7m aC],aA])]
   exists _,fR,fR,_,rfl;exists _,fR,t7,_,0,.str "paper",fR,fR,SqT.of l,fR,fR,_,rfl;let u:=O _ _ g;exists _,fR,.inl #[fR,_,SqL.of u],_,fR,D,_,_,fR,fR,u,?_;rw[Ad];exact AI (show r.length<=2 by lia) (by decide)
   let aa:∀{t:IS},PaperAt H7 t->PaperAt (upd H7 D (.lst (r.map V.ref++[.ref t7]))) t:=λ{t} ⟨z,ys,g1,g2⟩=>#[z,ys,by rw[fh (jb g1 u (λz=>nomatch z))];exact g1,by rw[fh (jb g2 u (λz=>nomatch z))];exact g2]
   refine#[r++[t7],_,_,fR,gz hD ac _,?_,?_,?_,λt' R=>?_,λk2 aL=>?_];rw[fh (AE an)];exact O _ _ Y;rw[ad,Ax];rfl;rw[Aj,Av,L];rcases Ab.mp R with z|z;exact aa ((p t' z).same O);rw[Ae.mp z];exact aa #[zz,ys,l,N]
   by_cases c:k2=i;rw[c,<- ak];exact aG;exact x k2 (by lia)
 rintro σ e ⟨r,T,z2,rfl,M,Y,g,L,p,x⟩;obtain⟨C,y,rfl⟩:∃C y,r=[C,y]:=by
  match r,L with
  |[C,y],_=>exact#[C,y,fR]
 let(a1,y1,g1,aM):=p C (Af ..);let(a2,y2,g2,aN):=p y (Ag _ (Af ..));exists _,fR,D,[C,y],fR,fR,SqL.of g,λt' R=>?_,_,rfl;let(z,ys,h,_):=p t' R;exact#[_,SqT.of h]
 let d:SqT K e pr [.str a,.str b]:=SqT.of (M _ _ ab);refine#[_,fR,pr,_,0,.str a,fR,fR,d,fR,_,fR,pr,_,1,.str b,fR,fR,d,fR,_,fR,D,_,0,.ref C,fR,fR,SqL.of g,fR,C,_,1,.ref a1,fR,fR,SqT.of g1,fR,_,fR,D,_,1,.ref y,fR,fR,SqL.of g,fR,y,_,1,.ref a2,fR,fR,SqT.of g2,fR,(show 5<=IR by decide),λT ay=>?_];refine#[fK,λz2 aw=>?_];let U:=fe ay (.tup [.str "split",.str a,.str b,.ref a1,.ref a2]);let I:=fe aw (.tup [.str "paper",.ref T]);exact q z2 _ (M.trans (U.trans I)) (.paper #[T,_,ad,I _ _ ad] (zj (x 0 (show 0<2 by decide)) (x 1 (show 1<2 by decide))))
theorem a0h(Cn:Con K mg w)(En:mg "enumerate"=eW)(T:Txt K mg C fI)(T2:TTxt K mg C2 aQ)(F:Fun K "shown" "shown" a1f f fd)(GI:FnOk P w K mg base CX0 5 fI dI ["self","facts","parts"] (xl K C))(bI:Binds K dI ["self","facts","parts"] [])(GJ:FnOk P w K mg base CX0 1 aQ dJ ["self","knowledge","parts"] (xb K C C2))(bJ:Binds K dJ ["self","knowledge","parts"] [])(GC:FnOk P w K mg base CX0 1 gC dC eS (xo C))(cC:eR GC C "clashing")(GO:FnOk P w K mg base CX0 4 gO dO eT (xg K C))(cO:eR GO C "open_ends")(GR:FnOk P w K mg base CX0 8 gR dR eU (vv K C C2))(cR:eR GR C2 "rows_of")(GL:FnOk P w K mg base CX0 1 gL dL ["self"] (vy K C C2))(cL:MCal K C2 "leaves_some" gL dL ["self"])(GA:FnOk P w K mg base CX0 8 gA dA ["taking","names","other","whole"] (sg K C C2))(cA:Cal K mg "state_against" gA dA ["taking","names","other","whole"])(hm:8<=m)(GS:FnOk P w K mg base CX0 m gS a7 ["one","other","names","whole","pair"] (xn K n))(cS:Cal K mg "split_paper" gS a7 ["one","other","names","whole","pair"]):FnOk P w K mg base CX0 (m+1) f fd ["one","other","names","whole"] (ur K n):=by
 refine F.okA ["one","other","names","whole","knowledge","pair","taking","rows"] λba A outer s0 H vs Q E M h nd=>?_;let(o,t,nl,xs,X,k,l,Gs,Ss,rfl,(fa,pa,ho,ap,ab),ht,an,hG,ax,aF,q):=h;let bc:=j4 M;let aO:=M.mono (j:=1) (by lia);let a3:=M.mono (j:=4) (by lia);let aW:=M.mono (j:=2) (by lia);let a0:=M.mono (j:=6) (by lia);let bj:=M.mono (j:=7) (by lia);let aL:=M.mono (j:=8) (by lia);exists _,fc (fz 4 nd (a3q T.mkC GI a0 rfl T.mgC bI .nil gt (ft (fi K (qv 0) dl) (ft (fi K (qv 0) dl) fb))))
  (fc (gg (j5 (rz (qv 4) T.cl cC.meth GC aO cC.bind .nil gt)) (ff (fx (ij (gw (mx (gw fb) fb))))) gd)
  (fc (fz 5 nd (rz (qv 4) T.cl cO.meth GO a3 cO.bind .nil gt))
  (fc (gg (fo lu (qv 5) gu (fm _)) (fc (fz 6 nd (a3q T2.mkC GJ aW rfl T2.mgC bJ .nil gt (fg (qv 4) (i7 (a91 rfl rfl Cn.dict rfl En (ft (fi K (qv 0) dl) fb)) fb))))
  (fc (fz 7 nd (gi (qv 6) T2.cl cR.meth GR aL cR.bind .nil gt (fg (qv 1) fb)))
  (fc (gg (QW.qt (mo (fo lu (qv 7) gu (fm _)) (ls (QW.qt (j6 (j5 (qv 3)) (je (j5 (rz (qv 6) T2.cl cL.meth GL aO cL.bind .nil gt)))))))) (ff (fx (gm GA aL cA (fg (qv 6) (fg (qv 2) (fg (qv 1) (fg (qv 3) fb))))))) gd)
  (fc (fz 5 nd (gh (K:=K) rfl (qv 6)))
  (ff (gg (fo lu (qv 5) gu (fm _)) (ff (fx (ij (gw (mx (gw (fg (qv 7) fb)) fb))))) gd)))))) gd)
  (ff (fx (gm GS M cS (fg (qv 0) (fg (qv 1) (fg (qv 2) (fg (qv 3) (fg (qv 5) fb)))))))))))
 nofun
 let(Z,aV,aP):=id ab;let bi:=A3 aP;let s:=hG.len;refine#[_,fR,o,_,0,.ref fa,fR,fR,ho,fR,_,fR,o,_,1,.ref pa,fR,fR,ho,fR,λx dx hx aU bh=>?_];let s1:Same H (upd (upd H dx (.own x)) x (.ins C dx [])):=λb o N=>by rw[fh (gc N hx),fh (gc N aU)];exact N
 refine#[x,dx,fa,pa,k,l,fR,ad,ap.same s1,by lia,hG.facts,ab.same s1,s,hG.parts,λpl hd un fu L Fl D ae Y H2 k2 KS ay A G ag aI KF hD hL=>#[fR,?_]];let e2:Same H H2:=λb o N=>k2 b o (s1 _ _ N) (λz=>by let z':b=x:=z;rw[z',hx] at N;cases N);let kw:KwAt K C H2 x k l:=#[pl,hd,un,fu,D,L,Fl,KS,#[#[ae,Y,ag,KF,aI],hD],ay,A,G,hL]
 let((hm,uk,KN,hok,af),_,_):=id KS;let ak:∀{a b:fS},Told (fq k) L a b↔Un k l a b:=λ{a b}=>a68 hG.facts A G.sound;let full:∀{j:fC} {r:fJ},l[j]?=eV r->(j∈Fl↔FullR (Un k l) r):=λ{j r} h=>#[λz=>by
  let(r',h1,h2):=G.isf j z;rw[h] at h1;cases h1;exact h2,λz=>A.full j r h (z.mono λa b u=>xy hG.facts A u)]
 let bg:=af.len;refine#[_,fR,x,ae,Y,fR,ag,KF.meth "clashing" (by decide),x,pl,hd,un,fu,hm,uk,fR,KN,af.pr,by lia,λH3 e3=>#[_,fR,iteB (λc=>?_) (λc=>?_)]];refine#[fL,λz1 ar=>#[fK,λz2 aq=>?_]];let s4:=fe ar (.tup [.str "clash"]);let s5:=fe aq (.tup [.str "paper",.ref z1]);let(y,hy):=(a8c af).mp c;exact q z2 _ (e2.trans (e3.trans (s4.trans s5))) (.paper #[z1,_,ad,s5 _ _ ad] (ze (ak.mp hy)))
 let nocl:∀y,¬ Un k l y y:=λy z=>by
  let:=(a8c af).mpr #[y,ak.mpr z];rw[c] at this;cases this
 let aG:=e2.trans e3;let aY:=kw.same e3;refine#[_,fR,x,ae,Y,fR,e3 _ _ ag,KF.meth "open_ends" (by decide),x,pl,hd,un,fu,D,k,l,L,Fl,neOf k l,fR,KS.same e3,(NeAt.mk #[ae,Y,ag,KF,aI] hD).same e3,e3 _ _ ay,u4 s,o0,hG.parts,λH4 e4 a2=>?_,λj r pr H4 e4 hj B hf hs ao=>?_]
 . let R:Rdw k l X:=#[hG.facts,hG.dF,hG.dP,hG.any,nocl,λj r B av=>a4x hG.facts nocl (λj r B av aM=>a2 j ((kh B).mpr av) r B (λz=>aM ((full B).mp z))) B av]
   let p:=aG.trans e4;let aZ:=aY.same e4;exists _,fR,fR,_,rfl;refine#[_,fR,_,fR,o,_,1,.ref pa,fR,fR,p.seqT ho,fR,pa,_,fR,p _ _ aV,(by rw[Ad];lia),λpd aR=>?_];let s5:=fe aR (.dK (kvE 0 (Z.map V.ref)));let U:=p.trans s5;refine λy dy hy aE a9=>?_;let ai:=ad (H:=H4) (a:=pd) (o:=.dK (kvE 0 (Z.map V.ref)));let aC:=aZ.same s5;generalize upd H4 pd (.dK (kvE 0 (Z.map V.ref)))=H5 at s5 U hy aE ai aC |-;let s6:Same H5 (upd (upd H5 dy (.own y)) y (.ins C2 dy [])):=λb o N=>by rw[fh (gc N hy),fh (gc N aE)];exact N
   refine#[y,dy,x,pd,H5,k,l,Z,fR,ad,s6,hy,aC,ai,kx U aP,λtd H7 k7 al=>#[fR,?_]];let aX:Same H5 H7:=al.sm;let a1:=U.trans aX;let(p',bb,bm,a8,aT,be,g1,g2,_):=al.ex;let O:=hG.oth;let au:∀r∈Ss,PartRow r:=λr M=>oi (O.dS r M);let bn:=O.six;let ac:∀{kv:eZ (Key×V)} {Rr:fC->eZ fB},NumOk (fq k) X kv->Fol.Fits (vI kv) (gq (iu kv ((X.length:fB)+1) eW l (neOf k l))) Gs Ss Rr->_:=λhk hf=>(R.x hk).first s O.dS O.hG O.dG hf
   let ah:∀{tk:eZ fC} {dq:fH} {am:fA (fC×fS)} {H8:Hp},TkAt K C C2 H5 H8 y td k l tk dq am->(∀kv Rr,NumOk (fq k) X kv->Fol.Fits (vI kv) (gq (iu kv ((X.length:fB)+1) eW l (neOf k l))) Gs Ss Rr->∃i j a e,am=eV (j,e)/\Ss[i]?=eV [("stretch":fS),a,e]/\Fol.Amid (mmOf k l) (vI kv) (neOf k l) (Rr i) e j)->
    sg K C C2 [.ref y,.ref nl,.ref t,.bl eX] H8 (λv H'=>Q v H') E0:=λ{tk dq am H8} g hx=>by
    let e8:=U.trans g.sm;exact#[y,nl,t,td,H5,k,l,Gs,Ss,tk,dq,am,X,fR,g,e8 _ _ an,hG.wl,ht.same e8,R,s,O,hx,λt' H' e' p'=>q t' H' (e8.trans e') (.state p')]
   refine#[_,fR,y,a8,aT,fR,g1,g2.meth "rows_of" (by decide),_,fR,H5,y,td,t,k,l,Gs,Ss,fR,al,#[hG.facts,hG.parts,s],ht.same a1,O.hG,au,O.gl,by lia,λhf H8 aA k8 g=>?_,λhf=>#[λaw qs d Dr ys H8 k8 g bk=>?_,λi j d H8 a6 aA k8 g=>?_,λd H8 a6 aA k8 g=>?_]];exists _,fR,fR,_,rfl;exact#[_,fR,_,fR,_,fR,_,fR,ah g λkv Rr hk J=>by rw[(ac hk J).1] at hf;cases hf]
   . exists _,fR,fR,_,rfl;let(p8,bd,bf,aH,aN,aD,g3,g4,g5):=g.ex;exists _,fR,_,rfl;refine#[_,fR,y,aH,aN,fR,g3,g4.meth "leaves_some" (by decide),H5,y,td,k,l,_,_,_,fR,g,s,λb H9 e9 N=>#[_,fR,?_]];let az:=g.same e9;cases b with
     |true =>
      refine#[_,fR,_,fR,_,fR,_,fR,ah az λkv Rr hk J=>?_];let(j,hj,hn):=N.mp rfl;rcases(ac hk J).2 with⟨aj,q',h1,h2⟩|⟨i,j',a,e,h1,_⟩
      . rw[d] at h1;cases h1;exact fF (h2 j hj) hn
      rw[d] at h1;cases h1
     |false =>
      let aB:∀j∈neOf k l,j∈aw.flatten:=λj hj=>by
       by_cases c:j∈aw.flatten;exact c;let:=N.mpr #[j,hj,c];cases this
      let a5:=az.sm;let I:=U.trans a5;exists _,fR,y,C2,aH,aN,aD,fR,e9 _ _ g3,T2.cl,T2.nD,g4.doubt;let aa:=g5.db.same λt xs z=>e9 _ _ z;cases hd:dbt k l (ng Gs++qs) with
      |none =>
       rw[hd] at aa;obtain rfl:aD=.non:=aa;exists _,fR,fR,_,rfl;refine#[_,fR,fK,λz1 ar=>#[fK,λz2 aq=>?_]];let s4:=fe ar (.tup [.str "cover",.ref Dr]);let aJ:=fe aq (.tup [.str "paper",.ref z1]);exact q z2 _ (I.trans (s4.trans aJ)) (.paper #[z1,_,ad,aJ _ _ ad] (zf hG.facts au hf d hd aB))
      |some pq =>
       rw[hd] at aa;let(pr,rfl,ao):=aa;let(o1,o2,w1,w2):=a9o hG.facts au O.hG hf d hd (W:=Dom X) (λr M=>#[lm (hG.dP r M),pc (.inl rfl) (hG.dP r M)]) (λr M=>pc (.inl rfl) (O.dS r M)) O.dG;exists _,fR,fR,_,rfl;exact#[_,fR,_,fR,_,fR,_,fR,_,fR,o,t,nl,pr,xs,X,k,l,Gs,Ss,_,_,fR,#[fa,pa,I.seqT ho,ap.same I,ab.same I],ht.same I,I _ _ an,hG,ax,aF,ao,w1,w2,#[o1,o2],λt' H' e' p'=>q t' H' (I.trans e') p']
   . exists _,fR,fR,_,rfl;refine#[_,fR,_,fR,_,fR,_,fR,ah g λkv Rr hk J=>?_];rcases(ac hk J).2 with⟨aj,q',h1,h2⟩|⟨i',j',a,e,h1,h2,h3⟩
     . rw[d] at h1;cases h1
     rw[d] at h1;cases h1;exact#[i,j,a,e,by rw[Fol.some_getD h2,Fol.end2_str],h2,h3]
   exists _,fR,fR,_,rfl;refine#[_,fR,_,fR,_,fR,_,fR,ah g λkv Rr hk J=>?_];rcases(ac hk J).2 with⟨aj,q',h1,h2⟩|⟨i',j',a,e,h1,h2,h3⟩
   . rw[d] at h1;cases h1
   rw[d] at h1;cases h1
 let p:=aG.trans e4;exists _,fR,fR,_,rfl;let(_,aS,a4):=a6m hG.facts ((kh B).mp hj) (λz=>hf ((full B).mpr z));let aK:=hG.dP r (Ar B);exact#[_,fR,_,fR,_,fR,_,fR,_,fR,o,t,nl,pr,xs,X,k,l,Gs,Ss,_,_,fR,#[fa,pa,p.seqT ho,ap.same p,ab.same p],ht.same p,p _ _ an,hG,ax,aF,ao,lm aK,pc (.inl rfl) aK,#[aS,a4],λt' H' e' p'=>q t' H' (p.trans e') p']
structure WdOk(ws:fJ)(F P:fG):Prop where
 f:ju F
 p:ju P
 ne:∀r∈F++P,r≠[]
 w:∀y∈ii (F++P),y∈ws
inductive spBothS(K:Aa)(vs:eZ V)(H:Hp)(Q:VK):Prop
 |mk (o t:IS)(ws:fJ)(F P G S:fG)(h0:vs=[.ref o,.ref t])(h1:T2At K H o F P)(h2:T2At K H t G S)(h3:WdOk ws F P)(h4:WdOk ws G S)(h5:ws.length<=20)(h6:∀p (zs:fJ) H',Same H H'->H' p=eV (.lst (zs.map V.str))->(∀y,y∈zs↔y∈ii (F++P)\/y∈ii (G++S))->zs.length<=40->Q (.ref p) H'):spBothS K vs H Q
def a77(K:Aa):Sp:=λvs H Q _=>spBothS K vs H Q
section
theorem adc(C:Con K mg w)(F:Fun K "names_of_both" "names_of_both" abu f fd)(u:FnOk P w K mg base CX0 1 gN Y eS (a1s K))(g:eQ u "names_of"):FnOk P w K mg base CX0 2 f fd ["one","other"] (a77 K):=by
 refine F.okA ["one","other"] λD A outer s0 H vs Q E v h _=>?_;let(o,t,T,Fs,X,Gs,J,rfl,M,ht,a,b,N,q):=h;exists _,(ff (fx (gn (qd rfl) rfl C.sorted Fq (i7 (iz (a1i rfl) rfl C.set Ee (j9 (fj lc (gm u v g (fg (qv 0) fb)) (gm u v g (fg (qv 1) fb))) fb)) fb))));refine#[_,fR,o,Fs,X,fR,M.tell,a.f,a.p,a.ne,λj hn r=>by let:=nz hn λy c=>a.w y (r y c);lia,λW e H1 Z B g1 n1 x _=>?_];refine#[_,fR,t,Gs,J,fR,(ht.same B).tell,b.f,b.p,b.ne,λj hn r=>by let:=nz hn λy c=>b.w y (r y c);lia,λI d H2 ab s R n2 z _=>?_];let l1:=nz n1 λy c=>a.w y ((x y).mp c);let l2:=nz n2 λy c=>b.w y ((z y).mp c);refine#[W,I,_,_,fR,fR,s _ _ g1,R,?_,λO l=>?_];rw[Ad,Ad];exact jt (show e.length+d.length<=1000 by lia)
 let L:=fe l (.lst (e.map V.str++d.map V.str));refine#[O,e++d,fR,SqL.of (by rw[ad,Ax]),?_,λp4 j m hd=>?_];rw[Aj];exact AI (show e.length+d.length+1<=41 by lia) (by decide)
 let U:=fe m (SetO P w p4 j);let aa:j.length<=40:=by let:=nz hd.nodup (λy c=>(hd.mem y).mp c);rw[Aj] at this;lia
 refine#[p4,j,fR,ad,by lia,λp5 n k i _=>?_];refine q p5 n _ (B.trans (s.trans (L.trans (U.trans (fe k _))))) ad (λy=>?_) (by rw[i.length_eq];lia);rw[i.mem_iff,hd.mem y,Ab,x y,z y]
theorem a88(J:Con K mg w)(q:mg "enumerate"=eW)(T:Txt K mg C N)(e:TTxt K mg C2 d)(F:Fun K "shown" "shown" a1f p c)(O:Fun K "split_paper" "split_paper" a1m fP dP)(x:FnOk P w K mg base CX0 5 N L ["self","facts","parts"] (xl K C))(B:Binds K L ["self","facts","parts"] [])(y:FnOk P w K mg base CX0 1 d dJ ["self","knowledge","parts"] (xb K C C2))(f:Binds K dJ ["self","knowledge","parts"] [])(g:FnOk P w K mg base CX0 1 U dC eS (xo C))(l:eR g C "clashing")(i:FnOk P w K mg base CX0 4 Y dO eT (xg K C))(I:eR i C "open_ends")(v:FnOk P w K mg base CX0 8 M dR eU (vv K C C2))(z:eR v C2 "rows_of")(D:FnOk P w K mg base CX0 1 R dL ["self"] (vy K C C2))(k:MCal K C2 "leaves_some" R dL ["self"])(j:FnOk P w K mg base CX0 8 W dA ["taking","names","other","whole"] (sg K C C2))(u:Cal K mg "state_against" W dA ["taking","names","other","whole"])(X:Cal K mg "shown" p c ["one","other","names","whole"])(r:Cal K mg "split_paper" fP dP ["one","other","names","whole","pair"]):∀n,FnOk P w K mg base CX0 (2*n+9) p c ["one","other","names","whole"] (ur K n):=by
 intro n;induction n with
 |zero =>
  let no:∀{vs:eZ V} {H:Hp} {Q:VK} {E:XK},¬ xn K 0 vs H Q E:=λ⟨o,t,nl,pr,xs,ws,F,P,G,S,a,b,_,_,_,_,hG,_,h1,_,h2,h3,Z,_⟩=>by
   let:=a8a (.inl rfl) (hG.wx _ h2) (hG.wx _ h3) Z
   lia
  exact a0h J q T e F x B y f g l i I v z D k j u (m:=8) (An _) #[λvs H Q E h=>fF h no,λA outer s H args us vs Q E _ _ _ _ h=>fF h no] r
 |succ n ih=>exact a0h J q T e F x B y f g l i I v z D k j u (m:=2*n+10) (by lia) (aa0 O ih X) r
variable{P:JH} in
inductive spFollowedS(K:Aa)(vs:eZ V)(H:Hp)(Q:VK):Prop
 |mk (o t:IS)(ws xs:fJ)(F P G S:fG)(h0:vs=[.ref o,.ref t])(h1:T2At K H o F P)(h2:T2At K H t G S)(h3:WdOk ws F P)(h4:WdOk ws G S)(h5:ws.length<=20)(h6:F.length<=50)(h7:xs.length=6)(h8:(∀zs:fJ,(∀y,y∈zs↔y∈ii (F++P)\/y∈ii (G++S))->zs.length<=40->Gd xs zs F P G S))(h9:∀t' (zs:fJ) H',Same H H'->(∀y,y∈zs↔y∈ii (F++P)\/y∈ii (G++S))->AnsAt K H' t' F P G S zs->Q (.ref t') H'):spFollowedS K vs H Q
def x5(K:Aa):Sp:=λvs H Q _=>spFollowedS K vs H Q
theorem a1z(F:Fun K "followed" "followed" yz f fd)(J:FnOk P w K mg base CX0 2 B I eS (a77 K))(b:eQ J "names_of_both")(M:FnOk P w K mg base CX0 39 L i eT (ur K 15))(e:eQ M "shown"):FnOk P w K mg base CX0 40 f fd ["one","other"] (x5 K):=by
 refine F.okA ["one","other"] λC A outer s0 H vs Q E u h _=>?_;let(o,t,v,xs,x,z,y,r,rfl,s,n,l,d,c,N,m,g,q):=h;let a:=u.mono (j:=2) (by lia);exists _,(ff (fx (gm M u e (fg (qv 0) (fg (qv 1) (i7 (gm J a b (fg (qv 0) (fg (qv 1) fb))) (agm fb)))))));refine#[_,fR,_,fR,_,fR,_,fR,o,t,v,x,z,y,r,fR,s,n,l,d,c,λp zs R k hp hm hl=>?_];refine#[o,t,p,xs,zs,x,z,y,r,fR,s.same k,n.same k,hp,g zs hm hl,by lia,?_,λt' H' D O=>q t' zs H' (k.trans D) hm O];exact AA (List.countP_le_length) (ad3 m)
end
def PoolRow(xs:fJ)(r:fJ):Prop:=∃k u v:fS,r=[k,u,v]/\(k="is" \/ k="not")/\u∈xs/\v∈xs
theorem rh(xs:fJ)(hl:xs.length=n)(b:0<n):∃v:fS,atI (xs.map V.str) (i % (n:fB))=eV (.str v)/\v∈xs:=by
 let(v,h1,h2):=wz (xs:=xs.map V.str) (m:=(n:fB)) (i:=i) (by rw[Ad,hl]) (by lia);let(x,a,rfl):=As.mp h2;exact#[x,h1,a]
inductive LW_at_(K:Aa)(Hc:Hp)(W:fJ->Prop)(fl:IS)(n:fC):Prop
 |mk (as:eZ IS)(h0:Hc fl=eV (.lst (as.map V.ref)))(h1:as.length<=n)(h2:∀c∈as,∃r,RowAt K Hc c r/\W r):LW_at_ K Hc W fl n
structure LW(K:Aa)(H0 Hc:Hp)(W:fJ->Prop)(fl:IS)(n:fC):Prop where
 no:H0 fl=eW
 at_:LW_at_ K Hc W fl n
theorem LW.grow(h:LW K f a W fl n)(e:Same a i):LW K f i W fl n:=by
 let(as,h1,h2,h3):=h.at_;exact#[h.no,as,e _ _ h1,h2,λc d=>by let(r,b,g):=h3 c d;exact#[r,e.seqT b,g]]
theorem LW.app{as:eZ IS}(h:LW K g a W fl n)(d:a fl=eV (.lst (as.map V.ref)))(hm:as.length+1<=m)(f:RowAt K a t r)(l:W r):LW K g (upd a fl (.lst (as.map V.ref++[.ref t]))) W fl m:=by
 let(b,h1,h2,h3):=h.at_;let e:as=b:=by
  let:=HO.lst.inj (Am (d.symm.trans h1));exact(CV (λ_ _ z=>V.ref.inj z)).mp this
 subst e;refine#[h.no,as++[t],by rw[ad,Ax];rfl,by rw[Aj,Av];lia,λc j=>?_];rcases Ab.mp j with z|z;let(r,i,k):=h3 c z;exact#[r,a80 d i,k];rw[Ae.mp z];exact#[r,a80 d f,l]
theorem a1l{W:fJ->Prop}:∀{as:eZ IS},(∀c∈as,∃r,RowAt K H c r/\W r)->∃rs,IZ (λb r=>RowAt K H b r) as rs/\∀r∈rs,W r
 |[],_=>#[[],.nil,λr g=>by simp at g]
 |c::as,h=>by
  let(r,h1,h2):=h c (Af ..);let(rs,h3,e):=a1l (as:=as) λd f=>h d (Ag _ f);exact#[r::rs,.cons h1 h3,λr' a=>by
   rcases Ak.mp a with rfl|z;exact h2
   exact e r' z]
theorem LW.rows(h:LW K d b W fl n):∃rs,RowsAt K b fl rs/\rs.length<=n/\∀r∈rs,W r:=by
 let(as,h1,h2,h3):=h.at_;let(rs,a,c):=a1l h3;exact#[rs,#[as,h1,a],by rw[<- A3 a];exact h2,c]
abbrev a5g:JA:=top 38
abbrev a83:JA:=top 40
def CPart(xs:fJ)(r:fJ):Prop:=(∃a f s,r=[("cell":fS),a,f,s]/\a∈xs/\(f∈xs\/f="any")/\s∈xs)\/(∃a b,r=[("stretch":fS),a,b]/\a∈xs/\b∈xs)\/∃a,r=[("tree":fS),a]/\a∈xs
inductive spChainS(K:Aa)(vs:eZ V)(H:Hp)(Q:VK):Prop
 |mk (c:fB)(l:IS)(ys:fJ)(h0:vs=[.int c,.ref l])(h1:H l=eV (.lst (ys.map V.str)))(h2:ys.length=5)(h3:∀pl P H',Same H H'->H pl=eW->RowsAt K H' pl P->P.length<=5->(∀r∈P,CPart (ys++[("nil":fS)]) r)->Q (.ref pl) H'):spChainS K vs H Q
def a2l(K:Aa):Sp:=λvs H Q _=>spChainS K vs H Q
inductive spFactsS(K:Aa)(vs:eZ V)(H:Hp)(Q:VK):Prop
 |mk (c:fB)(l:IS)(ys:fJ)(h0:vs=[.int c,.ref l,.int 3])(h1:H l=eV (.lst (ys.map V.str)))(h2:ys.length=5)(h3:∀pl F H',Same H H'->H pl=eW->RowsAt K H' pl F->F.length<=3->(∀r∈F,PoolRow (ys++[("nil":fS)]) r)->Q (.ref pl) H'):spFactsS K vs H Q
def a37(K:Aa):Sp:=λvs H Q _=>spFactsS K vs H Q
theorem fO:4<=IR:=by decide
theorem aad(C:Con K mg w)(F:Fun K "_law_chain" "_law_chain" a5g f fd)(GM:FnOk P w K mg base CX0 1 gM dM eS nk)(W:eQ GM "_law_mixed"):FnOk P w K mg base CX0 2 f fd ["_law_cell","_law_names_here"] (a2l K):=by
 refine F.okA ["_law_cell","_law_names_here","_law_m","_law_many","_law_stops","_law_parts","_law_k","_law_f"] λax A outer s0 H vs Q E hr h nd=>?_;let(c,l,ys,rfl,hl,S,q):=h;exists _,fc (fz 2 nd (gm GM hr W (fg (qv 0) (ja fb))))
  (fc (fz 3 nd (fj i3 dl (fj gx (qv 2) dl)))
  (fc (fz 4 nd (fj lc (kz nu (qv 1) mq (lj (qv 3))) (ie (ft (gr K (fj lc (ie (gw (gw (gw fb)))) (qv 1)) (fj gx (fj ib (qv 2) dl) (fj i3 dl (gn i6 rfl C.len AJ (fg (qv 1) fb))))) fb))))
  (fc (fz 5 nd (ie fb))
  (fc (im A1 rfl (jk rfl C.range (fg (qv 3) fb)) (ip 6 nd) (fc (fz 2 nd (gm GM hr W (fg (qv 0) (j9 (fj i3 dl (qv 6)) fb))))
  (fc (fz 7 nd (gr K (fj lc (qv 1) (ie (gw (gw (gw fb))))) (fj gx (fj ib (qv 2) dl) (fj i3 dl (gn i6 rfl C.len AJ (fg (qv 1) fb))))))
  (ff (gg (fo uq (fj gx (qv 2) dl) dl (fm _)) (ff (ia (jv (K:=K) rfl A8 AO AQ ji (qv 5) (mx (gw (ft (gr K (qv 4) (qv 6)) (ft (gr K (qv 4) (fj i3 (qv 6) dl)) fb))) fb)))) (ff (gg (fo uq (fj gx (qv 2) dl) dl (fm _)) (ff (ia (jv (K:=K) rfl A8 AO AQ ji (qv 5) (mx (gw (ft (gr K (qv 4) (qv 6)) (fg (qv 7) (ft (gr K (qv 4) (fj i3 (qv 6) dl)) fb)))) fb)))) (ff (ia (jv (K:=K) rfl A8 AO AQ ji (qv 5) (mx (gw (ft (gr K (qv 4) (qv 6)) fb)) fb)))))))))))
  (fc (gg (QW.qt (j6 (fo gk (fj gx (fj ib (qv 2) dl) dl) dl (fm _)) (je (fo uq (qv 3) (gn i6 rfl C.len AJ (fg (qv 1) fb)) (fm _))))) (ff (ia (jv (K:=K) rfl A8 AO AQ ji (qv 5) (mx (gw (ft (gr K (qv 1) (qv 3)) fb)) fb)))) gd)
  (ff (fx (qv 5))))))))
 nofun
 refine#[_,fR,c,3,fR,by lia,λm hm=>?_];let b1:=AM m (show(4:fB)≠0 by decide);let b2:=AU m (show(0:fB)<4 by decide);obtain⟨k0,aw⟩:∃k0:fC,1+m % 4=(k0:fB):=#[(1+m % 4).toNat,by lia]
 exists _,fR,_,_,fR,fR,(show(0:fB)<4 by decide),_,_,fR,rfl;show jh 3 (V.int (1+m % 4)) _ H _;rw[aw];let Z:(ys.map V.str).length=5:=by rw[Ad,S]
 let aB:((ys.map V.str).length:fB)=5:=by rw[Z];rfl
 refine#[_,fR,_,fR,_,fR,l,_,fR,SqL.of hl,λl1 aq=>?_];rw[a8r ys k0 (by lia)];let s1:=fe aq (.lst ((ys.take k0).map V.str));refine#[fN,λl2 ae=>?_];let s2:=s1.trans (fe ae (.lst [.str "nil",.str "nil",.str "nil"]));refine#[_,fR,l2,l,_,_,fR,fR,ad,s2 _ _ hl,(by rw[Z];decide),λl3 ac=>?_];let h3:=ad (H:=upd (upd H l1 (.lst ((ys.take k0).map V.str))) l2 (.lst [.str "nil",.str "nil",.str "nil"])) (a:=l3) (o:=.lst ([.str "nil",.str "nil",.str "nil"]++ys.map V.str));let s3:=s2.trans (fe ac (.lst ([.str "nil",.str "nil",.str "nil"]++ys.map V.str)));let M:(upd (upd (upd H l1 (.lst ((ys.take k0).map V.str))) l2 (.lst [.str "nil",.str "nil",.str "nil"])) l3 (.lst ([.str "nil",.str "nil",.str "nil"]++ys.map V.str))) l1=eV (.lst ((ys.take k0).map V.str)):=fe ac _ _ _ (fe ae _ _ _ ad);generalize upd (upd (upd H l1 (.lst ((ys.take k0).map V.str))) l2 (.lst [.str "nil",.str "nil",.str "nil"])) l3 (.lst ([.str "nil",.str "nil",.str "nil"]++ys.map V.str))=H3 at h3 s3 M |-;let ap:H3 l3=eV (.lst ((([("nil":fS),"nil","nil"]++ys)).map V.str)):=by rw[h3,Ax];rfl
 let(y,ar,ag):=rh ([("nil":fS),"nil","nil"]++ys) (n:=8) (i:=m / 4) (by rw[Aj,S];rfl) (by decide);let hS:∀{x:fS},x∈[("nil":fS),"nil","nil"]++ys->x∈ys++[("nil":fS)]:=λ{x} h=>by
  rcases Ab.mp h with z|z;simp only[Ak,Aq,gD,or_self] at z;rw[z];exact Ab.mpr (.inr (Ae.mpr rfl));exact Ab.mpr (.inl z)
 let h8:∀(a b:fC),a=3->b=5->(3:fB)+((b:fC):fB)=8:=λa b _ h=>by rw[h];rfl
 exists _,fR,_,_,fR,fR,(show CDiv _ 4 from#[by decide,by decide]),_,fR,l,_,fR,.inl (SqL.of (s3 _ _ hl)),_,_,fR,rfl;rw[Z];refine#[_,_,fR,fR,(show(0:fB)<8 by decide),l3,_,_,.str y,fR,fR,SqL.of ap,ar,fL,λl4 al=>?_];let s4:=fe al (.lst [.str y]);refine#[l1,l4,_,_,fR,fR,s4 _ _ M,ad,?_,λst ai=>?_];rw[Ad];exact jt (show(ys.take k0).length+1<=1000 by rw[AG];lia)
 let Y:=s3.trans (s4.trans (fe ai (.lst ((ys.take k0).map V.str++[.str y]))));let O:(upd (upd H3 l4 (.lst [.str y])) st (.lst ((ys.take k0).map V.str++[.str y]))) st=eV (.lst ((ys.take k0++[y]).map V.str)):=by rw[ad,Ax];rfl
 show jh 4 (V.ref st) _ (upd (upd H3 l4 (.lst [.str y])) st (.lst ((ys.take k0).map V.str++[.str y]))) _;generalize upd (upd H3 l4 (.lst [.str y])) st (.lst ((ys.take k0).map V.str++[.str y]))=R at Y O |-;let aA:(ys.take k0++[y]).length=k0+1:=by rw[Aj,AG,Av];lia
 let ah:∀{x:fS},x∈ys.take k0++[y]->x∈ys++[("nil":fS)]:=λ{x} h=>by
  rcases Ab.mp h with z|z;exact Ab.mpr (.inl (Bp z));rw[Ae.mp z];exact hS ag
 refine#[fM,λpl I=>?_];let s6:=fe I (.lst []);let e6:=Y.trans s6;let aa:H pl=eW:=Y.free I;let L0:LW K R (upd R pl (.lst [])) (CPart (ys++[("nil":fS)])) pl 0:=#[I,[],ad,An _,λc hc=>by simp at hc]
 exists _,fR,_,fR,(by lia),(by lia);refine kd (lo:=0) (n:=((k0:fC):fB).toNat) (λi σ H'=>Same R H'/\LW K R H' (CPart (ys++[("nil":fS)])) pl i/\∃(m2:fB) (z6 z7:fA V),σ=[iQ c,rQ l,iQ m2,iQ (k0:fB),rQ st,rQ pl,z6,z7])
  #[s6,L0,m,eW,eW,fR] ?_ ?_
 . rintro i σ H' hi ⟨e,X,m0,z6,z7,rfl⟩
   nofun
   rw[Dk];let ay:i<k0:=by lia
   refine#[_,fR,_,fR,_,_,fR,fR,c,51+i,fR,by lia,λm hm=>?_];let el:=(Y.trans e) _ _ hl;refine#[_,fR,fN,λa1 ao=>?_];let t1:=fe ao (.lst [.str "nil",.str "any",.str "any"]);refine#[l,a1,_,_,fR,fR,t1 _ _ el,ad,(by rw[Z];decide),λa2 aj=>?_];let t2:=t1.trans (fe aj (.lst (ys.map V.str++[.str "nil",.str "any",.str "any"])));let hA:(upd (upd H' a1 (.lst [.str "nil",.str "any",.str "any"])) a2 (.lst (ys.map V.str++[.str "nil",.str "any",.str "any"]))) a2=eV (.lst ((ys++[("nil":fS),"any","any"]).map V.str)):=by rw[ad,Ax];rfl
   let(fw,ak,am):=rh (ys++[("nil":fS),"any","any"]) (n:=8) (i:=m / 7) (by rw[Aj,S];rfl) (by decide);let e2:=e.trans t2;let L:=X.grow t2;let ab:fw∈ys++[("nil":fS)]\/fw="any" := by
    rcases Ab.mp am with z|z;exact .inl (Ab.mpr (.inl z))
    simp only[Ak,Aq,gD] at z;rcases z with z|z|z;rw[z];exact .inl (Ab.mpr (.inr (Ae.mpr rfl)));exact .inr z;exact .inr z
   generalize upd (upd H' a1 (.lst [.str "nil",.str "any",.str "any"])) a2 (.lst (ys.map V.str++[.str "nil",.str "any",.str "any"]))=D at t2 hA e2 L |-;exists _,fR,_,_,fR,fR,(show CDiv _ 7 from#[by decide,by decide]),_,fR,l,_,fR,.inl (SqL.of (t2 _ _ el)),_,_,fR,rfl;rw[Z];exists _,_,fR,fR,(show(0:fB)<8 by decide),a2,_,_,.str fw,fR,fR,SqL.of hA,ak;obtain⟨u,hu⟩:∃u,(ys.take k0++[y])[i]?=eV u:=#[_,Ah (by lia)]
   obtain⟨v,hv⟩:∃v,(ys.take k0++[y])[i+1]?=eV v:=#[_,Ah (by lia)]
   let T:=ah (Ar hu);let af:=ah (Ar hv);let au:atI ((ys.take k0++[y]).map V.str) (i:fB)=eV (.str u):=jo (by rw[Ap,hu];rfl);let av:atI ((ys.take k0++[y]).map V.str) ((i:fB)+1)=eV (.str v):=jo (j:=i+1) (by rw[Ap,hv];rfl);let s:∀{G},Same D G->SqL K G st ((ys.take k0++[y]).map V.str):=λg=>SqL.of (g _ _ (e2 _ _ O));let go:∀{r:fJ} {t:IS},D t=eW->CPart (ys++[("nil":fS)]) r->∀as,(upd D t (.tup (r.map V.str))) pl=eV (.lst as)->∃(_:as.length<IR),(Same R (upd (upd D t (.tup (r.map V.str))) pl (.lst (as++[.ref t])))/\LW K R (upd (upd D t (.tup (r.map V.str))) pl (.lst (as++[.ref t]))) (CPart (ys++[("nil":fS)])) pl (i+1)):=λ{r t} p hr as has=>by
    let J:=fe p (.tup (r.map V.str));let(ps,d,N,_):=L.at_;let e:as=ps.map V.ref:=HO.lst.inj (Am (has.symm.trans (J _ _ d)));subst e;exact#[by rw[Ad];exact jf (by lia),gz I (e2.trans J) _,(L.grow J).app (J _ _ d) (by lia) (SqT.of ad) hr]
   let(ps,d,N,_):=id L.at_;let B:∀{t o},D t=eW->(upd D t o) pl=eV (.lst (ps.map V.ref)):=λ{t o} p=>fe p o _ _ d;refine#[_,fR,_,_,fR,fR,(show(0:fB)<7 by decide),_,_,fR,fR,_,fR,iteB (λc1=>?_) (λc1=>?_)];refine#[_,fR,.inl #[fR,_,SqL.of d],_,fR,_,fR,st,_,_,.str u,fR,fR,s (Same.refl _),au,_,fR,_,fR,_,_,fR,fR,st,_,_,.str v,fR,fR,s (Same.refl _),av,fN,λt p=>?_];let(g1,g2,g3):=go (r:=[("stretch":fS),u,v]) p (.inr (.inl #[u,v,fR,T,af])) _ (B p);exact#[pl,_,.ref t,fR,fR,B p,g1,g2,g3,m,_,_,fR]
   refine#[_,fR,_,_,fR,fR,(show(0:fB)<7 by decide),_,_,fR,fR,_,fR,iteB (λc2=>?_) (λc2=>?_)];refine#[_,fR,.inl #[fR,_,SqL.of d],_,fR,_,fR,st,_,_,.str u,fR,fR,s (Same.refl _),au,_,fR,_,fR,_,fR,_,_,fR,fR,st,_,_,.str v,fR,fR,s (Same.refl _),av,fO,λt p=>?_];let(g1,g2,g3):=go (r:=[("cell":fS),u,fw,v]) p (.inl #[u,fw,v,fR,T,ab,af]) _ (B p);exact#[pl,_,.ref t,fR,fR,B p,g1,g2,g3,m,_,_,fR];refine#[_,fR,.inl #[fR,_,SqL.of d],_,fR,_,fR,st,_,_,.str u,fR,fR,s (Same.refl _),au,fK,λt p=>?_];let(g1,g2,g3):=go (r:=[("tree":fS),u]) p (.inr (.inr #[u,fR,T])) _ (B p);exact#[pl,_,.ref t,fR,fR,B p,g1,g2,g3,m,_,_,fR]
 rintro σ H' ⟨e,X,m2,z6,z7,rfl⟩;let az:((k0:fC):fB).toNat<=4:=by lia
 let U:∀D k,k<=5->Same R D->LW K R D (CPart (ys++[("nil":fS)])) pl k->Q (.ref pl) D:=λD k hk e2 L2=>by
  let(Pt,hP,aC,an):=L2.rows;exact q pl Pt D (Y.trans e2) aa hP (by lia) an
 refine#[_,fR,_,_,fR,fR,(show CDiv _ 100 from#[by decide,by decide]),_,_,fR,fR,(show(0:fB)<3 by decide),fR,_,fR,iteB (λc1=>?_) (λc1=>?_)]
 . let el:=(Y.trans e) _ _ hl;refine#[_,fR,_,fR,l,_,fR,.inl (SqL.of el),_,_,fR,fR,_,fR,iteB (λc2=>?_) (λc2=>#[_,fR,U H' _ (by lia) e X])];obtain⟨u,hu⟩:∃u,ys[k0]?=eV u:=#[_,Ah (by lia)]
   let au:atI (ys.map V.str) (k0:fB)=eV (.str u):=jo (by rw[Ap,hu];rfl);let(ps,d,N,_):=id X.at_;refine#[_,fR,.inl #[fR,_,SqL.of d],_,fR,_,fR,l,_,_,.str u,fR,fR,SqL.of el,au,fK,λt p=>?_];let J:=fe p (.tup ([("tree":fS),u].map V.str));exists pl,_,.ref t,fR,fR,J _ _ d,by rw[Ad];exact jf (by lia),_,rfl;exact U _ (((k0:fC):fB).toNat+1) (by lia) (gz I (e.trans J) _) ((X.grow J).app (J _ _ d) (by lia) (r:=[("tree":fS),u]) (SqT.of ad) (.inr (.inr #[u,fR,Ab.mpr (.inl (Ar hu))])))
 exact#[_,fR,U H' _ (by lia) e X]
theorem aap(C:Con K mg w)(F:Fun K "_law_facts" "_law_facts" a83 f fd)(GM:FnOk P w K mg base CX0 1 gM dM eS nk)(j:eQ GM "_law_mixed"):FnOk P w K mg base CX0 2 f fd ["_law_cell","_law_names_here","_law_most"] (a37 K):=by
 refine F.okA ["_law_cell","_law_names_here","_law_most","_law_facts_here","_law_k","_law_m","_law_a","_law_b"] λab A outer s0 H vs Q E hr h nd=>?_;let(c,l,ys,rfl,hl,b,q):=h;exists _,fc (fz 3 nd (ie fb))
  (fc (im A1 rfl (jk rfl C.range (j9 (fj gx (gm GM hr j (fg (qv 0) (ja fb))) (fj i3 (qv 2) dl)) fb)) (ip 4 nd) (fc (fz 5 nd (gm GM hr j (fg (qv 0) (j9 (fj i3 dl (qv 4)) fb))))
  (fc (fz 6 nd (gr K (qv 1) (fj gx (fj ib (qv 5) dl) (gn i6 rfl C.len AJ (fg (qv 1) fb)))))
  (fc (fz 7 nd (gr K (fj lc (qv 1) (ie (gw (gw fb)))) (fj gx (fj ib (qv 5) dl) (fj i3 (gn i6 rfl C.len AJ (fg (qv 1) fb)) dl))))
  (ff (ia (jv (K:=K) rfl A8 AO AQ ji (qv 3) (mx (ft (gr K (ie (gw (gw (gw (gw fb))))) (fj gx (qv 5) dl)) (fg (qv 6) (fg (qv 7) fb))) fb))))))))
  (ff (fx (qv 3))))
 nofun
 let I:(ys.map V.str).length=5:=by rw[Ad,b]
 refine#[fM,λpl a=>?_];let s6:=fe a (.lst []);let L0:LW K H (upd H pl (.lst [])) (PoolRow (ys++[("nil":fS)])) pl 0:=#[a,[],ad,An _,λc hc=>by simp at hc]
 refine#[_,fR,c,7,fR,by lia,λm hm=>?_];let b1:=AM m (show(4:fB)≠0 by decide);let b2:=AU m (show(0:fB)<4 by decide);obtain⟨k0,Y⟩:∃k0:fC,m % 4=(k0:fB):=#[(m % 4).toNat,by lia]
 refine#[_,fR,_,_,fR,fR,_,_,fR,fR,(show(0:fB)<3+1 by decide),_,fR,by lia,by lia,?_];let S:m % (3+1)=(k0:fB):=Y;rw[S];refine kd (lo:=0) (n:=((k0:fC):fB).toNat) (λi σ H'=>Same H H'/\LW K H H' (PoolRow (ys++[("nil":fS)])) pl i/\∃(T J G D:fA V),σ=[iQ c,rQ l,iQ 3,rQ pl,T,J,G,D])
  #[s6,L0,eW,eW,eW,eW,fR] ?_ ?_
 . rintro i σ H' hi ⟨e,U,T,J,G,D,rfl⟩
   nofun
   rw[Dk];refine#[_,fR,_,fR,_,_,fR,fR,c,11+i,fR,by lia,λm hm=>?_];let s:=e _ _ hl;let b1:=AM m (show(4:fB)≠0 by decide);let b2:=AU m (show(0:fB)<4 by decide);let(u,hu,X):=rh ys (n:=5) (i:=m / 4) b (by decide);exists _,fR,_,fR,_,_,fR,fR,(show CDiv _ 4 from#[by decide,by decide]),_,fR,l,_,fR,.inl (SqL.of s);rw[I];exists _,_,fR,fR,(show(0:fB)<5 by decide),l,_,_,.str u,fR,fR,SqL.of s,hu;refine#[_,fR,fK,λW M=>?_];let t1:=fe M (.lst [.str "nil",.str "nil"]);refine#[l,W,_,_,fR,fR,t1 _ _ s,ad,(by rw[I];decide),λp B=>?_];let x:=t1.trans (fe B (.lst (ys.map V.str++[.str "nil",.str "nil"])));let hA:(upd (upd H' W (.lst [.str "nil",.str "nil"])) p (.lst (ys.map V.str++[.str "nil",.str "nil"]))) p=eV (.lst ((ys++[("nil":fS),"nil"]).map V.str)):=by rw[ad,Ax];rfl
   let(v,hv,Z):=rh (ys++[("nil":fS),"nil"]) (n:=7) (i:=m / 64) (by rw[Aj,b];rfl) (by decide);let e2:=e.trans x;let d:=U.grow x;let k:v∈ys++[("nil":fS)]:=by
    rcases Ab.mp Z with z|z;exact Ab.mpr (.inl z);simp only[Ak,Aq,gD,or_self] at z;rw[z];exact Ab.mpr (.inr (Ae.mpr rfl))
   generalize upd (upd H' W (.lst [.str "nil",.str "nil"])) p (.lst (ys.map V.str++[.str "nil",.str "nil"]))=H2 at x hA e2 d |-;exists _,fR,_,_,fR,fR,(show CDiv _ 64 from#[by decide,by decide]),_,fR,l,_,fR,.inl (SqL.of (x _ _ s)),_,_,fR,rfl;rw[I];exists _,_,fR,fR,(show(0:fB)<7 by decide),p,_,_,.str v,fR,fR,SqL.of hA,hv;let(ps,g,aa,_):=id d.at_;refine#[_,fR,.inl #[fR,_,SqL.of g],fO,λa3 R=>?_];let t3:=fe R (.lst ([("not":fS),"not","is","not"].map V.str));let(wv,hw,N):=wt (xs:=[("not":fS),"not","is","not"].map V.str) (i:=m % 4) b1 (by show m % 4<4;exact b2);obtain⟨wd,rfl,O⟩:∃wd:fS,wv=.str wd/\(wd="is" \/ wd="not"):=by
    let(y,hy,rfl):=As.mp N;exists y,rfl;simp only[Ak,Aq,gD] at hy;rcases hy with z|z|z|z;exact .inr z;exact .inr z;exact .inl z;exact .inr z
   refine#[_,fR,_,_,fR,fR,(show(0:fB)<4 by decide),a3,_,_,.str wd,fR,fR,SqL.of ad,hw,_,fR,_,fR,fN,λt ht=>?_];let o:=t3.trans (fe ht (.tup ([wd,u,v].map V.str)));refine#[pl,_,.ref t,fR,fR,o _ _ g,by rw[Ad];exact jf (by lia),?_];exact#[gz a (e2.trans o) _,(d.grow o).app (o _ _ g) (by lia) (r:=[wd,u,v]) (SqT.of ad) #[wd,u,v,fR,O,Ab.mpr (.inl X),k],_,_,_,_,fR]
 rintro σ H' ⟨e,U,T,J,G,D,rfl⟩;let(Pt,hP,ac,L):=U.rows;exact#[_,fR,q pl Pt H' e a hP (by lia) L]
end K37
namespace L2
open PyProof.Rows
def ME(t:TE):Prop:=∀σ H (Q Q':VK),(∀v H1,Q v H1->Q' v H1)->t σ H Q->t σ H Q'
def MT(t:TT):Prop:=∀σ H (Q Q':gQ->Hp->Prop),(∀v H1,Q v H1->Q' v H1)->t σ H Q->t σ H Q'
def MA(t:TA):Prop:=∀σ H (Q Q':eZ V->Hp->Prop),(∀v H1,Q v H1->Q' v H1)->t σ H Q->t σ H Q'
def MR(r:R2):Prop:=∀x y H (Q Q':VK),(∀v H1,Q v H1->Q' v H1)->r x y H Q->r x y H Q'
theorem mh(i:fC):ME (tVar i):=fun σ H Q b a ⟨v,h1,h2⟩=>#[v,h1,a _ _ h2]
theorem me_c(v:V):ME (tC v):=fun σ H Q b a h=>a _ _ h
theorem me(f:MR r)(e:ME a)(d:ME b):ME (tOp r a b):=fun σ H Q g c h=>e _ _ _ _ (λx i h1=>d _ _ _ _ (λy j h2=>f _ _ _ _ _ c h2) h1) h
theorem ag3(f:∀x H (Q b:VK),(∀v c,Q v c->b v c)->r x H Q->r x H b)(e:ME a):ME (tUn r a):=fun σ H Q b d h=>e _ _ _ _ (λx c h1=>f _ _ _ _ d h1) h
theorem mu_u(g:fB->V):∀x H (Q a:VK),(∀v b,Q v b->a v b)->rU g x H Q->rU g x H a:=λx H Q a c #[i,h1,h2]=>#[i,h1,c _ _ h2]
theorem zw(g:fB->fB->V):MR (rI0 g):=λx y H Q b a #[i,j,h1,h2,h3]=>#[i,j,h1,h2,a _ _ h3]
theorem mr_i(C:fB->fB->Prop)(g:fB->fB->V):MR (rI C g):=λx y H Q c a #[i,j,h1,h2,h3,b]=>#[i,j,h1,h2,h3,a _ _ b]
theorem agp:MR rEq:=λx y H Q b a #[h1,h2]=>#[h1,a _ _ h2]
theorem ag6:MR rNe:=λx y H Q b a #[h1,h2]=>#[h1,a _ _ h2]
theorem a04(K:Aa):MR (rIxL K):=λx y H Q d c #[p,xs,i,v,h1,h2,h3,a,b]=>#[p,xs,i,v,h1,h2,h3,a,c _ _ b]
theorem a1d(K:Aa):MR (rIxT K):=λx y H Q d c #[p,xs,i,v,h1,h2,h3,a,b]=>#[p,xs,i,v,h1,h2,h3,a,c _ _ b]
theorem a69:MA tNil:=fun σ H Q b a h=>a _ _ h
theorem a40(c:ME a)(d:MA r):MA (ka a r):=fun σ H Q e b h=>c _ _ _ _ (λx f h1=>d _ _ _ _ (λy g h2=>b _ _ h2) h1) h
theorem ac5(e:∀xs H (Q a:VK),(∀v b,Q v b->a v b)->r xs H Q->r xs H a)(d:MA t):ME (tCB r t):=fun σ H Q a c h=>d _ _ _ _ (λxs b h1=>e _ _ _ _ c h1) h
theorem rk(h:ME t):MT (a45 t):=fun σ H Q c a b=>h _ _ _ _ (λx d #[k,h1,h2]=>#[k,h1,a _ _ h2]) b
theorem a10(f:MT a)(e:MT b):MT (tAnd a b):=fun σ H Q g d h=>f _ _ _ _ (λc i h1=>by
 cases c with
 |true=>rw[fE rfl] at h1 |-;exact e _ _ _ _ d h1
 |false=>rw[fD Aw] at h1 |-;exact d _ _ h1) h
end L2
namespace K37
open L2 Mir Kn
abbrev a38:JA:=top 39
abbrev abt:JA:=top 41
theorem abl(h:CPart xs r):∃d u:fS,atI (r.map V.str) 0=eV (.str d)/\atI (r.map V.str) 1=eV (.str u)/\u∈xs/\(d≠"tree" -> ∃e:fS,atI (r.map V.str) (-1)=eV (.str e)/\e∈xs):=by
 rcases h with⟨a,f,s,rfl,c,_,i⟩|⟨a,b,rfl,c,g⟩|⟨a,rfl,c⟩
 . exact#[_,a,fR,fR,c,λ_=>#[s,fR,i]]
 . exact#[_,a,fR,fR,c,λ_=>#[b,fR,g]]
 exact#[_,a,fR,fR,c,λz=>fF rfl z]
theorem acp(Pv:fC->St->Hp->Prop)(f:fC->St->Hp->gQ->Hp->Prop)(g:Pv m0 σ H)(hm:MT c)(l:∀m σ H,Pv m σ H->c σ H (f m σ H))(i:∀m σ H b d,Pv m σ H->f m σ H b d->if b=eX then k {D with nx:=λe H'=>∃a,a<m/\Pv a e H',ct:=λe H'=>∃a,a<m/\Pv a e H',bk:=D.nx} σ d else D.nx σ d):tf c k D σ H :=
 rm Pv g (λm σ H p=>hm _ _ _ _ (λb d t=>i m σ H b d p t) (l m σ H p)) (fun σ H Q j n h=>hm σ H Q j n h)
inductive spJoinedS(K:Aa)(vs:eZ V)(H:Hp)(Q:VK):Prop
 |mk (c:fB)(l:IS)(P:fG)(xs:fJ)(h0:vs=[.ref l,.int c])(h1:RowsAt K H l P)(h2:P.length<=5)(h3:(∀r∈P,CPart xs r))(h4:∀pl P' H',Same H H'->H pl=eW->RowsAt K H' pl P'->P'.length<=5->(∀r∈P',CPart xs r)->Q (.ref pl) H'):spJoinedS K vs H Q
def a1t(K:Aa):Sp:=λvs H Q _=>spJoinedS K vs H Q
theorem a7t(C:Con K mg w)(F:Fun K "_law_joined" "_law_joined" a38 f fd)(GM:FnOk P w K mg base CX0 1 gM dM eS nk)(cM:eQ GM "_law_mixed"):FnOk P w K mg base CX0 2 f fd ["_law_parts","_law_cell"] (a1t K):=by
 refine F.okA ["_law_parts","_law_cell","_law_found","_law_k","_law_part","_law_j","_law_m"] λaD A outer s0 H vs Q E hr h nd=>?_;let(c,l,g,xs,rfl,hl,aF,aw,q):=h;exists _,fc (fz 2 nd (ie fb))
  (fc (fz 3 nd dl)
  (fc (mj A1 (fo uq (qv 3) (gn i6 rfl C.len AJ (fg (qv 0) fb)) (fm _)) (fc (fz 4 nd (gr K (qv 0) (qv 3)))
  (fc (fz 5 nd (fj i3 (qv 3) dl))
  (fc (fz 6 nd (gm GM hr cM (fg (qv 1) (j9 (fj i3 dl (qv 5)) fb))))
  (fc (gg (QW.qt (j6 (fo kc (fi K (qv 4) dl) gj (fm _)) (je (fo zo (fj gx (qv 6) dl) dl (fm _))))) (fc (mj A1 (QW.qt (j6 (fo uq (qv 5) (gn i6 rfl C.len AJ (fg (qv 0) fb)) (fm _)) (j6 (fo kc (fi K (gr K (qv 0) (qv 5)) dl) gj (fm _)) (j6 (fo gk (fi K (gr K (qv 0) (qv 5)) dl) (fi K (gr K (qv 0) (fj a07 (qv 5) dl)) (wk t8 dl)) (fm _)) (je (fo zo (fj gx (fj ib (qv 6) dl) dl) dl (fm _))))))) (fc (fz 5 nd (fj i3 (qv 5) dl))
  (ff (fz 6 nd (gm GM hr cM (fg (qv 1) (j9 (fj i3 dl (qv 5)) fb)))))))
  (ff (fz 4 nd (ij (gw (ft (fi K (gr K (qv 0) (qv 3)) dl) (ft (fi K (gr K (qv 0) (fj a07 (qv 5) dl)) (wk t8 dl)) fb))))))) (ff (gg (QW.qt (j6 (fo gk (fi K (qv 4) dl) gj (fm _)) (je (fo gk (fj gx (fj ib (qv 6) dl) dl) dl (fm _))))) (ff (fz 4 nd (ij (gw (ft (fi K (qv 4) dl) (gw (ft (fi K (qv 4) dl) fb))))))) (ff (gg (QW.qt (j6 (fo gk (fi K (qv 4) dl) gj (fm _)) (je (fo gk (fj gx (fj ib (qv 6) dl) dl) dl (fm _))))) (ff (fz 4 nd (ij (gw (ft (fi K (qv 4) dl) fb))))) gd)))))
  (fc (ia (jv (K:=K) rfl A8 AO AQ ji (qv 2) (fg (qv 4) fb)))
  (ff (fz 3 nd (qv 5)))))))))
  (ff (fx (qv 2)))))
 nofun
 let(as,h1,h2):=id hl;let ay:=A3 h2;let row:∀{k:fC} (hk:k<g.length),∃b r,(as.map V.ref)[k]?=eV (.ref b)/\g[k]?=eV r/\RowAt K H b r/\CPart xs r:=λ{k} hk=>by
  let az:k<as.length:=by lia
  let e1:as[k]?=eV as[k]:=Ah az;let N:g[k]?=eV g[k]:=Ah hk;exact#[as[k],g[k],by rw[Ap,e1];rfl,N,Paired.at2 h2 e1 N,aw _ (AH hk)]
 let aj:((as.map V.ref).length:fB)=(g.length:fB):=by rw[Ad,ay]
 refine#[fM,λy T=>?_];let s1:=fe T (.lst []);let L0:LW K H (upd H y (.lst [])) (CPart xs) y 0:=#[T,[],ad,An _,λc hc=>by simp at hc]
 let U:∀(K':Aa) (xs:eZ V) (H:Hp) (Q Q':VK),(∀v H1,Q v H1->Q' v H1)->(∃p ys,xs=[V.ref p]/\(SqL K' H p ys\/SqT K' H p ys)/\Q (V.int ↑ys.length) H)->∃p ys,xs=[V.ref p]/\(SqL K' H p ys\/SqT K' H p ys)/\Q' (V.int ↑ys.length) H:=λK' xs H Q Q' hq #[p,ys,a,b,c]=>#[p,ys,a,b,hq _ _ c]
 refine rm (λn σ S=>Ex4 λ(k:fC) (z4 z5 z6:fA V)=>And5 (σ=[rQ l,iQ c,rQ y,iQ (k:fB),z4,z5,z6]) (Same H S) (LW K H S (CPart xs) y k) (k<=g.length) (n=g.length-k)) (m0:=g.length) #[0,eW,eW,eW,fR,s1,L0,AF _,fR] ?_ (rk (me (zw _) (mh _) (ac5 (U _) (a40 (mh _) a69))));rintro n σ S ⟨k,z4,z5,z6,rfl,N,L2,aH,rfl⟩
 nofun
 exists _,fR,_,fR,l,_,fR,.inl (SqL.of (N _ _ h1)),_,_,fR,fR,_,rfl;rw[aj];refine iteB (λc1=>?_) (λc1=>?_)
 rotate_left
 . let(Pt,hP,aI,ax):=L2.rows;exact#[_,fR,q y Pt S N T hP (by lia) ax]
 let hk:k<g.length:=by let:=fV c1;lia
 let(b,r,af,aG,au,ab):=row hk;exists _,fR,_,fR,l,_,_,.ref b,fR,fR,SqL.of (N _ _ h1),jo af;let D:∀{J:Hp} {t:IS} {r':fJ} {j:fC},Same S J->RowAt K J t r'->CPart xs r'->k<j->∃ps:eZ IS,J y=eV (.lst (ps.map V.ref))/\(ps.map V.ref).length<IR/\Same H (upd J y (.lst (ps.map V.ref++[.ref t])))/\LW K H (upd J y (.lst (ps.map V.ref++[.ref t]))) (CPart xs) y j:=λ{J t r' j} e3 av aq ac=>by
  let(ps,am,aB,_):=id (L2.grow e3).at_;exact#[ps,am,by rw[Ad];exact jf (by lia),gz T (N.trans e3) _,(L2.grow e3).app am (by lia) av aq]
 exists _,fR,_,_,fR,rfl;refine#[_,fR,_,fR,_,_,fR,fR,c,55+(k+1),fR,by lia,λm hm=>?_];let d:RowAt K S b r:=au.same N;let(r0,u,a0,a1,hu,aa):=abl ab;refine#[_,fR,b,_,0,.str r0,fR,fR,d,a0,fR,_,fR,iteB (λc2=>?_) (λc2=>?_)]
 . refine#[_,fR,_,_,fR,fR,(show(0:fB)<3 by decide),_,_,fR,fR,_,fR,iteB (λc3=>?_) (λc3=>?_)]
   . let X:r0≠"tree" := λz=>by rw[z] at c2;cases c2
     let(el,R,an):=aa X;refine acp (λn σ J=>∃(j:fC) (m:fB),σ=[rQ l,iQ c,rQ y,iQ (k:fB),rQ b,iQ (j:fB),iQ m]/\J=S/\k<j/\j<=g.length/\n=g.length-j/\∃(bl:IS) (rl:fJ) (e:fS),atI (as.map V.ref) ((j:fB)-1)=eV (.ref bl)/\RowAt K S bl rl/\atI (rl.map V.str) (-1)=eV (.str e)/\e∈xs)
      (λn σ J b H4=>H4=J/\(b=eX->∃(j:fC) (O:IS) (Y:fJ) (e:fS),σ[5]?=eV (eV (.int (j:fB)))/\j<g.length/\atI (as.map V.ref) (j:fB)=eV (.ref O)/\RowAt K S O Y/\atI (Y.map V.str) (-1)=eV (.str e)/\e∈xs)) (m0:=g.length-(k+1)) #[k+1,m,fR,fR,by lia,by lia,fR,b,r,el,by rw[show(((k+1:fC):fB)-1)=(k:fB) by lia];exact jo af,d,R,an]
      (a10 (rk (me (zw _) (mh _) (ac5 (U _) (a40 (mh _) a69)))) (a10 (rk (me ag6 (me (a1d _) (me (a04 _) (mh _) (mh _)) (me_c _)) (me_c _))) (a10 (rk (me agp (me (a1d _) (me (a04 _) (mh _) (mh _)) (me_c _)) (me (a1d _) (me (a04 _) (mh _) (me (zw _) (mh _) (me_c _))) (ag3 (mu_u _) (me_c _))))) (rk (me (zw _) (me (mr_i _ _) (me (mr_i _ _) (mh _) (me_c _)) (me_c _)) (me_c _)))))) ?_ ?_
     . rintro n σ J ⟨j,m,rfl,rfl,ac,aA,rfl,bl,rl,e,ae,ai,R,ao⟩;let B:=SqL.of (K:=K) (N _ _ h1);exists _,fR,_,fR,l,_,fR,.inl B,_,_,fR,fR,_,rfl;rw[aj];refine iteB (λc4=>?_) (λc4=>#[fR,λz=>by cases z]);let hj:j<g.length:=by let:=fV c4;lia
       let(O,Y,o,_,al,ak):=row hj;let x:RowAt K J O Y:=al.same N;let(j0,uj,b0,b1,_,ag):=abl ak;refine#[_,fR,_,fR,l,_,_,.ref O,fR,fR,B,jo o,O,_,0,.str j0,fR,fR,x,b0,fR,_,fR,iteB (λc5=>?_) (λc5=>#[fR,λz=>by cases z])];let(ej,ah,M):=ag λz=>by rw[z] at c5;cases c5
       exists _,fR,_,fR,l,_,_,.ref O,fR,fR,B,jo o,O,_,1,.str uj,fR,fR,x,b1;refine#[_,fR,_,fR,_,_,fR,fR,l,_,_,.ref bl,fR,fR,B,ae,_,fR,bl,_,_,.str e,fR,fR,ai,R,fR,_,fR,iteB (λc6=>?_) (λc6=>#[fR,λz=>by cases z])];refine#[_,fR,_,_,fR,fR,(show CDiv _ 3 from#[by decide,by decide]),_,_,fR,fR,(show(0:fB)<4 by decide),_,_,fR,fR,_,fR,fR,λ_=>#[j,O,Y,ej,fR,hj,jo o,x,ah,M]]
     rintro n σ J tb H4 ⟨j,m,rfl,rfl,ac,aA,rfl,bl,rl,e,ae,ai,R,ao⟩ ⟨rfl,ap⟩;let B:=SqL.of (K:=K) (N _ _ h1);cases tb with
     |true =>
      rw[fE rfl];let(Z,O,Y,ej,ar,aC,o,x,ah,M):=ap rfl;obtain rfl:Z=j:=by
       let:V.int (j:fB)=V.int (Z:fB):=Am (Am ar);let:=V.int.inj this
       lia
      exists _,fR,_,_,fR,rfl;refine#[_,fR,_,fR,_,_,fR,fR,c,55+(Z+1),fR,by lia,λm2 aE=>?_];exact#[g.length-(Z+1),by lia,Z+1,m2,fR,fR,by lia,by lia,fR,O,Y,ej,by rw[show(((Z+1:fC):fB)-1)=(Z:fB) by lia];exact o,x,ah,M]
     |false =>
      rw[fD Aw];exists _,fR,_,fR,l,_,_,.ref b,fR,fR,B,jo af,b,_,1,.str u,fR,fR,d,a1;refine#[_,fR,_,fR,_,_,fR,fR,l,_,_,.ref bl,fR,fR,B,ae,_,fR,bl,_,_,.str e,fR,fR,ai,R,fN,λt ht=>?_];let s5:=fe ht (.tup [.str "stretch",.str u,.str e]);let(ps,g1,G,I,L):=D s5 (t:=t) (r':=[("stretch":fS),u,e]) (SqT.of ad) (.inr (.inl #[u,e,fR,hu,ao])) ac;exact#[_,fR,.inl #[fR,_,SqL.of g1],_,fR,y,_,.ref t,fR,fR,g1,G,_,fR,g.length-j,by lia,j,_,_,_,fR,I,L,by lia,fR]
   -- neither joined
   let one:k+1<=g.length:=hk;rcases ab with⟨a,fw,s,rfl,ha,hf,hs⟩|⟨a,e,rfl,ha,he⟩|⟨a,rfl,ha⟩
   . exists _,fR,b,_,0,.str "cell",fR,fR,d,fR,fR,_,rfl;refine#[_,fR,_,_,fR,fR,(show CDiv _ 3 from#[by decide,by decide]),_,_,fR,fR,(show(0:fB)<3 by decide),fR,_,fR,iteB (λc4=>?_) (λc4=>?_)];refine#[_,fR,b,_,1,.str a,fR,fR,d,fR,_,fR,b,_,3,.str s,fR,fR,d,fR,fO,λt ht=>?_];let s5:=fe ht (.tup [.str "cell",.str a,.str "any",.str s]);let(ps,g1,G,I,L):=D s5 (t:=t) (r':=[("cell":fS),a,"any",s]) (j:=k+1) (SqT.of ad) (.inl #[a,"any",s,fR,ha,.inr rfl,hs]) (by lia);exact#[_,fR,.inl #[fR,_,SqL.of g1],_,fR,y,_,.ref t,fR,fR,g1,G,_,fR,g.length-(k+1),by lia,k+1,_,_,_,fR,I,L,by lia,fR];exists _,fR,b,_,0,.str "cell",fR,fR,d,fR,fR,_,rfl;refine#[_,fR,_,_,fR,fR,(show CDiv _ 3 from#[by decide,by decide]),_,_,fR,fR,(show(0:fB)<3 by decide),fR,_,fR,iteB (λc5=>?_) (λc5=>?_)];refine#[_,fR,b,_,1,.str a,fR,fR,d,fR,fK,λt ht=>?_];let s5:=fe ht (.tup [.str "tree",.str a]);let(ps,g1,G,I,L):=D s5 (t:=t) (r':=[("tree":fS),a]) (j:=k+1) (SqT.of ad) (.inr (.inr #[a,fR,ha])) (by lia);exact#[_,fR,.inl #[fR,_,SqL.of g1],_,fR,y,_,.ref t,fR,fR,g1,G,_,fR,g.length-(k+1),by lia,k+1,_,_,_,fR,I,L,by lia,fR];let(ps,g1,G,I,L):=D (Same.refl _) (t:=b) (j:=k+1) d (.inl #[a,fw,s,fR,ha,hf,hs]) (by lia);exact#[_,fR,.inl #[fR,_,SqL.of g1],_,fR,y,_,.ref b,fR,fR,g1,G,_,fR,g.length-(k+1),by lia,k+1,_,_,_,fR,I,L,by lia,fR]
   . exists _,fR,b,_,0,.str "stretch",fR,fR,d,fR,fR,_,rfl;exists _,fR,b,_,0,.str "stretch",fR,fR,d,fR,fR,_,rfl;let(ps,g1,G,I,L):=D (Same.refl _) (t:=b) (j:=k+1) d (.inr (.inl #[a,e,fR,ha,he])) (by lia);exact#[_,fR,.inl #[fR,_,SqL.of g1],_,fR,y,_,.ref b,fR,fR,g1,G,_,fR,g.length-(k+1),by lia,k+1,_,_,_,fR,I,L,by lia,fR]
   exists _,fR,b,_,0,.str "tree",fR,fR,d,fR,fR,_,rfl;exists _,fR,b,_,0,.str "tree",fR,fR,d,fR,fR,_,rfl;let(ps,g1,G,I,L):=D (Same.refl _) (t:=b) (j:=k+1) d (.inr (.inr #[a,fR,ha])) (by lia);exact#[_,fR,.inl #[fR,_,SqL.of g1],_,fR,y,_,.ref b,fR,fR,g1,G,_,fR,g.length-(k+1),by lia,k+1,_,_,_,fR,I,L,by lia,fR]
 let X:r0="tree" := by
  by_cases c3:r0="tree";exact c3;rw[fT (λz=>c3 (V.str.inj z))] at c2;cases c2
 let one:k+1<=g.length:=hk;subst X;exists _,fR,b,_,0,.str "tree",fR,fR,d,a0,fR,_,rfl;exists _,fR,b,_,0,.str "tree",fR,fR,d,a0,fR,_,rfl;let(ps,g1,G,I,L):=D (Same.refl _) (t:=b) (j:=k+1) d ab (by lia);exact#[_,fR,.inl #[fR,_,SqL.of g1],_,fR,y,_,.ref b,fR,fR,g1,G,_,fR,g.length-(k+1),by lia,k+1,_,_,_,fR,I,L,by lia,fR]
theorem ad7(h:n<l):ixN l (n:fB)=eV n:=by
 unfold ixN;simp
 lia
theorem a0z(xs:eZ V)(n:fC):cutV xs (eV (n:fB)) eW=xs.drop n:=by
 unfold cutV;rw[HT.sIx_nat,show HT.sIx xs.length xs.length eW=xs.length from rfl];by_cases h:n<=xs.length;rw[Ey h,B0 (by rw[By];lia)];rw[Fp (by lia),HQ,FO (by lia),List.take_nil]
theorem v4:∀{l:eZ α}{m:eZ β}(n:fC),IZ F l m->IZ F (l.drop n) (m.drop n)
 |_,_,0,h=>h
 |_,_,_+1,.nil=>.nil
 |_,_,n+1,.cons _ t=>v4 n t
theorem afo(h:CPart xs r)(h1:1<=n)(h2:n<r.length)(hv:v∈xs):CPart xs (r.set n v):=by
 rcases h with⟨a,f,s,rfl,c,e,d⟩|⟨a,b,rfl,c,g⟩|⟨a,rfl,c⟩
 . match n,h1,h2 with
   |1,_,_=>exact .inl #[v,f,s,fR,hv,e,d]
   |2,_,_=>exact .inl #[a,v,s,fR,c,.inl hv,d]
   |3,_,_=>exact .inl #[a,f,v,fR,c,e,hv]
   |n+4,_,h2=>exact fF h2 (by simp)
 . match n,h1,h2 with
   |1,_,_=>exact .inr (.inl #[v,b,fR,hv,g])
   |2,_,_=>exact .inr (.inl #[a,v,fR,c,hv])
   |n+3,_,h2=>exact fF h2 (by simp)
 match n,h1,h2 with
 |1,_,_=>exact .inr (.inr #[v,fR,hv])
 |n+2,_,h2=>exact fF h2 (by simp)
theorem afp:Ok "nil" := by unfold Ok;decide
theorem agi(c:∀y∈ys,Ok y)(h:CPart (ys++[("nil":fS)]) r):∀y∈r,Ok y:=by
 let d:∀y∈ys++[("nil":fS)],Ok y:=λy h=>by
  rcases Ab.mp h with z|z;exact c y z;rw[Ae.mp z];exact afp
 let g:Ok "cell" /\ Ok "stretch" /\ Ok "tree" /\ Ok "any" := by unfold Ok;decide
 rcases h with⟨a,f,s,rfl,e,k,j⟩|⟨a,b,rfl,e,i⟩|⟨a,rfl,e⟩
 . intro y c;simp only[Ak,Aq,gD] at c;rcases c with rfl|rfl|rfl|rfl;exact g.1;exact d _ e;rcases k with z|z;exact d _ z;rw[z];exact g.2.2.2
   exact d _ j
 . intro y c;simp only[Ak,Aq,gD] at c;rcases c with rfl|rfl|rfl;exact g.2.1;exact d _ e;exact d _ i
 intro y c;simp only[Ak,Aq,gD] at c;rcases c with rfl|rfl;exact g.2.2.1;exact d _ e
inductive spBentS(K:Aa)(vs:eZ V)(H:Hp)(Q:VK):Prop
 |mk (c:fB)(l nl:IS)(P:fG)(ys:fJ)(h0:vs=[.ref l,.int c,.ref nl])(h1:RowsAt K H l P)(h2:P.length<=5)(h3:(∀r∈P,CPart (ys++[("nil":fS)]) r))(h4:(∀y∈ys,Ok y))(h5:H nl=eV (.lst (ys.map V.str)))(h6:ys.length=5)(h7:∀pl P' H',Same H H'->RowsAt K H' pl P'->P'.length<=5->(∀r∈P',CPart (ys++[("nil":fS)]) r)->Q (.ref pl) H'):spBentS K vs H Q
def a8i(K:Aa):Sp:=λvs H Q _=>spBentS K vs H Q
theorem ae7(C:Con K mg w)(F:Fun K "_law_bent" "_law_bent" abt f fd)(GM:FnOk P w K mg base CX0 1 gM dM eS nk)(cM:eQ GM "_law_mixed"):FnOk P w K mg base CX0 2 f fd ["_law_parts","_law_cell","_law_names_here"] (a8i K):=by
 refine F.okA ["_law_parts","_law_cell","_law_names_here","_law_m","_law_at","_law_part","_law_place"] λaw A outer s0 H vs Q E L h nd=>?_;let(c,l,nl,d,ys,rfl,hl,U,e,ac,av,T,q):=h;let ae:=AI (D9 (by decide:32<=64) _) L.units;exists _,fc (fz 3 nd (gm GM L cM (fg (qv 1) (ja fb))))
  (fc (gg (QW.qt (mo (fo (aeq ae) (qv 0) (ie fb) (fm _)) (ls (fo zo (fj gx (qv 3) dl) dl (fm _))))) (ff (fx (qv 0))) gd)
  (fc (fz 4 nd (fj gx (fj ib (qv 3) dl) (gn i6 rfl C.len AJ (fg (qv 0) fb))))
  (fc (fz 5 nd (iz km rfl C.list Be (ft (gr K (qv 0) (qv 4)) fb)))
  (fc (fz 6 nd (fj i3 dl (fj gx (fj ib (qv 3) dl) (fj a07 (gn i6 rfl C.len AJ (fg (qv 5) fb)) dl))))
  (fc (a11 (gr K (fj lc (qv 2) (ie (gw fb))) (fj gx (fj ib (qv 3) dl) (fj i3 (gn i6 rfl C.len AJ (fg (qv 2) fb)) dl))) (a78 (qv 5) (qv 6) a0c))
  (ff (fx (fj lc (fj lc (kz nu (qv 0) mq (lj (qv 4))) (ie (i7 (iz zg rfl C.tuple PyProof.Rows.boot_tuple (fg (qv 5) fb)) fb))) (kz nu (qv 0) (lj (fj i3 (qv 4) dl)) mq)))))))))
 nofun
 let(as,h1,h2):=id hl;let ai:=A3 h2;let hok:∀r∈d,∀y∈r,Ok y:=λr L=>agi ac (e r L);refine#[_,fR,c,17,fR,by lia,λm hm=>?_];refine#[_,fR,fM,λe1 ar=>?_];let s1:=fe ar (.lst []);exists .list (d.map dRow),.list [],(hl.same s1).dp,.lst (SqL.of ad) .nil,x4 hok,x4 (rs:=[]) (λr L=>by cases L),_,rfl;rw[a2d];generalize upd H e1 (.lst [])=W at s1 |-;refine iteB (λc1=>?_) (λc1=>?_);exact#[_,fR,q l d W s1 (hl.same s1) U e]
 refine#[_,fR,_,_,fR,fR,(show(0:fB)<2 by decide),_,_,fR,fR,_,fR,iteB (λc2=>?_) (λc2=>?_)];exact#[_,fR,q l d W s1 (hl.same s1) U e]
 let ax:0<d.length:=by
  cases d with|nil=>cases c1|cons r rs=>exact Hn _
 let aj:((as.map V.ref).length:fB)=(d.length:fB):=by rw[Ad,ai]
 let Z:=SqL.of (K:=K) (s1 _ _ h1);exists _,fR,_,_,fR,fR,(show CDiv _ 4 from#[by decide,by decide]),_,fR,l,_,fR,.inl Z;rw[aj];obtain⟨at_,aq,x⟩:∃a:fC,m / 4 % (d.length:fB)=(a:fB)/\a<d.length:=#[(m / 4 % (d.length:fB)).toNat,by let:=AM (m / 4) (show(d.length:fB)≠0 by lia);lia,by let:=AM (m / 4) (show(d.length:fB)≠0 by lia);let:=AU (m / 4) (show(0:fB)<(d.length:fB) by lia);lia]
 exists _,_,fR,fR,(show(0:fB)<(d.length:fB) by lia);show jh 4 (V.int (m / 4 % (d.length:fB))) _ W _;rw[aq];let I:at_<as.length:=by lia
 let ea:as[at_]?=eV as[at_]:=Ah I;let ep:d[at_]?=eV d[at_]:=Ah x;let j:=(Paired.at2 h2 ea ep).same s1;let G:=e _ (AH x);let X:(as.map V.ref)[at_]?=eV (.ref as[at_]):=by rw[Ap,ea];rfl
 generalize as[at_]=b at j X;generalize d[at_]=r at j G;refine#[_,fR,_,fR,l,_,_,.ref b,fR,fR,Z,jo X,b,_,fR,.inr j,λpl R=>?_];let s2:=fe R (.lst (r.map V.str));let ay:2<=r.length/\r.length<=4:=by
  rcases G with⟨a,f,s,rfl,_⟩|⟨a,b,rfl,_⟩|⟨a,rfl,_⟩<;>exact#[by simp,by simp]
 let k:(upd W pl (.lst (r.map V.str))) pl=eV (.lst (r.map V.str)):=ad;let e2:=s1.trans s2;generalize upd W pl (.lst (r.map V.str))=H2 at s2 k e2 |-;let ak:((r.map V.str).length:fB)=(r.length:fB):=by rw[Ad]
 exists _,fR,_,_,fR,fR,(show CDiv _ 32 from#[by decide,by decide]),_,fR,pl,_,fR,.inl (SqL.of k),_,_,fR,rfl;rw[ak];let pos:(0:fB)<(r.length:fB)-1:=by lia
 obtain⟨pn,au,ab,u⟩:∃a:fC,1+m / 32 % ((r.length:fB)-1)=(a:fB)/\1<=a/\a<r.length:=#[(1+m / 32 % ((r.length:fB)-1)).toNat,by let:=AM (m / 32) (show(r.length:fB)-1≠0 by lia);lia,by let:=AM (m / 32) (show(r.length:fB)-1≠0 by lia);lia,by let:=AM (m / 32) (show(r.length:fB)-1≠0 by lia);let:=AU (m / 32) pos;lia]
 exists _,_,fR,fR,pos,_,_,fR,rfl;show jh 6 (V.int (1+m / 32 % ((r.length:fB)-1))) _ H2 _;rw[au];let y5:(ys.map V.str).length=5:=by rw[Ad,T]
 let B:=e2 _ _ av;refine#[_,fR,fL,λa1 al=>?_];let t1:=fe al (.lst [.str "nil"]);refine#[nl,a1,_,_,fR,fR,t1 _ _ B,ad,(by rw[y5];decide),λa2 af=>?_];let t2:=t1.trans (fe af (.lst (ys.map V.str++[.str "nil"])));let hA:(upd (upd H2 a1 (.lst [.str "nil"])) a2 (.lst (ys.map V.str++[.str "nil"]))) a2=eV (.lst ((ys++[("nil":fS)]).map V.str)):=by rw[ad,Ax];rfl
 generalize upd (upd H2 a1 (.lst [.str "nil"])) a2 (.lst (ys.map V.str++[.str "nil"]))=H3 at t2 hA |-;let e3:=e2.trans t2;let(J,am,ap):=rh (ys++[("nil":fS)]) (n:=6) (i:=m / 256) (by rw[Aj,T];rfl) (by decide);exists _,fR,_,_,fR,fR,(show CDiv _ 256 from#[by decide,by decide]),_,fR,nl,_,fR,.inl (SqL.of (t2 _ _ B)),_,_,fR,rfl;rw[y5];exists _,_,fR,fR,(show(0:fB)<6 by decide),a2,_,_,.str J,fR,fR,SqL.of hA,am;let N:=t2 _ _ k;let Y:H pl=eW:=s1.free R;exists _,fR,_,fR,pl,_,_,pn,fR,fR,N,ad7 (by rw[Ad];exact u);let e4:Same H (upd H3 pl (.lst ((r.map V.str).set pn (.str J)))):=gz Y e3 _;let g:(upd H3 pl (.lst ((r.map V.str).set pn (.str J)))) pl=eV (.lst ((r.set pn J).map V.str)):=by rw[ad,List.map_set]
 generalize upd H3 pl (.lst ((r.map V.str).set pn (.str J)))=H4 at e4 g |-;let p:=afo G ab u ap;generalize r.set pn J=r' at g p;refine#[_,fR,_,fR,_,fR,l,_,fR,SqL.of (e4 _ _ h1),λl5 ao=>?_];rw[afz];let s5:=fe ao (.lst ((as.map V.ref).take at_));refine#[_,fR,pl,_,fR,.inl #[SqL.of (s5 _ _ g),λt ht=>#[fL,λl6 D=>?_]]];let s6:=s5.trans ((fe ht (.tup (r'.map V.str))).trans (fe D (.lst [.ref t])));let ah:=fe D (.lst [.ref t]) _ _ (ad (a:=t) (o:=.tup (r'.map V.str)));let aa:=(fe ht (.tup (r'.map V.str))).trans (fe D (.lst [.ref t])) _ _ (ad (a:=l5) (o:=.lst ((as.map V.ref).take at_)));refine#[l5,l6,_,_,fR,fR,aa,ad,jt (by rw[AG,Ad,Av];lia),λl7 S=>?_];let s7:=s6.trans (fe S (.lst ((as.map V.ref).take at_++[.ref t])));let O:=fe S (.lst ((as.map V.ref).take at_++[.ref t])) _ _ ah;let v:=ad (H:=upd (upd (upd H4 l5 (.lst ((as.map V.ref).take at_))) t (.tup (r'.map V.str))) l6 (.lst [.ref t])) (a:=l7) (o:=.lst ((as.map V.ref).take at_++[.ref t]));generalize upd (upd (upd (upd H4 l5 (.lst ((as.map V.ref).take at_))) t (.tup (r'.map V.str))) l6 (.lst [.ref t])) l7 (.lst ((as.map V.ref).take at_++[.ref t]))=H7 at s7 O v |-;let e7:=e4.trans s7;refine#[_,fR,_,fR,_,_,fR,fR,_,fR,l,_,fR,SqL.of (e7 _ _ h1),λl8 an=>?_];let ec:cutV (as.map V.ref) (eV ((at_:fB)+1)) eW=(as.map V.ref).drop (at_+1):=a0z _ (at_+1);rw[ec];let s8:=fe an (.lst ((as.map V.ref).drop (at_+1)));refine#[l7,l8,_,_,fR,fR,s8 _ _ v,ad,jt (by rw[Aj,AG,By,Ad,Av];lia),λl9 ag=>?_];let e9:=s8.trans (fe ag (.lst ((as.map V.ref).take at_++[.ref t]++(as.map V.ref).drop (at_+1))));let M:IZ (λb r=>RowAt K (upd (upd H7 l8 (.lst ((as.map V.ref).drop (at_+1)))) l9 (.lst ((as.map V.ref).take at_++[.ref t]++(as.map V.ref).drop (at_+1)))) b r) as d:=kx (e7.trans e9) h2;refine q l9 (d.take at_++[r']++d.drop (at_+1)) _ (e7.trans e9) #[as.take at_++[t]++as.drop (at_+1),?_,?_] ?_ λy hy=>?_
 . rw[ad,Ax,Ax,EW,EX];rfl
 . exact Paired.app (Paired.app (v5 at_ M) (.cons (SqT.of (e9 _ _ O)) .nil)) (v4 _ M)
 . rw[Aj,Aj,AG,By,Av];lia
 rcases Ab.mp hy with z|z;rcases Ab.mp z with z|z;exact e y (Bp z);rw[Ae.mp z];exact p
 exact e y (CF z)
abbrev abg:JA:=top 45
abbrev a7q:JA:=top 46
def putH(hp:eZ (fB×IS))(x:fB)(r:IS):eZ (fB×IS):=if(hp.any λp=>decide (p.1=x))=eX then hp.map (λp=>if p.1=x then(p.1,r) else p) else hp++[(x,r)]
theorem acx(hp:eZ (fB×IS))(x:fB)(r:IS):putK (hv hp) (Sum.inl x) (.ref r)=hv (putH hp x r):=by
 unfold putK putH hv;let c:∀a b:fB,decide ((Sum.inl a:Key)=Sum.inl b)=decide (a=b):=λa b=>by
  by_cases h:a=b;subst h;simp;rw[fT h,fT (λz=>h (B5 z))]
 let e:(hp.map (λp=>((Sum.inl p.1,V.ref p.2):Key×V))).any (λkv=>decide (kv.1=(Sum.inl x:Key)))=hp.any λp=>decide (p.1=x):=by
  rw[Dj]
  congr 1
  funext p
  exact c p.1 x
 rw[e];split
 . rw[Bu,Bu];apply Cm;intro p _;show(if(Sum.inl p.1:Key)=Sum.inl x then _ else _)=_;by_cases h:p.1=x
   . rw[fE (by rw[h])];show _=((Sum.inl (if p.1=x then(p.1,r) else p).1,V.ref (if p.1=x then(p.1,r) else p).2):Key×V)
     rw[fE h]
   rw[fD (λz=>h (B5 z))];show _=((Sum.inl (if p.1=x then(p.1,r) else p).1,V.ref (if p.1=x then(p.1,r) else p).2):Key×V)
   rw[fD h]
 rw[Ax];rfl
theorem a9a(h:p∈putH hp x r):p∈hp\/p.2=r:=by
 unfold putH at h;split at h;let(q,a,rfl):=As.mp h;split;exact .inr rfl;exact .inl a
 rcases Ab.mp h with h|h;exact .inl h;simp only[Ak,Aq,gD] at h;exact .inr (by rw[h])
theorem aah(hp:eZ (fB×IS))(x:fB)(r:IS):(putH hp x r).length<=hp.length+1:=by
 unfold putH;split;rw[Ad];lia;rw[Aj,Av];lia
def CellsOk(K:Aa)(H:Hp)(hp:eZ (fB×IS)):Prop:=∀p∈hp,∃f s:fB,SqT K H p.2 [.int f,.int s]
theorem CellsOk.same(h:CellsOk K H hp)(e:Same H H'):CellsOk K H' hp:=λp a=>by
 let(f,s,z):=h p a;exact#[f,s,e.seqT z]
theorem a9v(hp:eZ (fB×IS))(z:fB):kg (hv hp) (Sum.inl z)=hv (hp.filter λp => !decide (p.1=z)):=by
 unfold kg hv;rw[Ez]
 congr 1
 apply DV;intro p _;show decide ((Sum.inl p.1:Key)≠Sum.inl z) = !decide (p.1=z);by_cases h:p.1=z
 . let h2:(Sum.inl p.1:Key)=Sum.inl z:=by rw[h]
   simp[h,h2]
 let h2:¬ (Sum.inl p.1:Key)=Sum.inl z:=λe=>h (B5 e);simp[h]
theorem a85(hp:eZ (fB×IS))(x:fB)(r:IS)(hn:(hp.map (·.1)).Nodup):((putH hp x r).map (·.1)).Nodup:=by
 unfold putH;split
 . rw[Bu];let:(hp.map ((·.1)∘λp:fB×IS=>if p.1=x then(p.1,r) else p))=hp.map (·.1):=Cm λp _=>by
    show(if p.1=x then(p.1,r) else p).1=p.1;split<;>rfl
   rw[this];exact hn
 rename_i h;rw[Ax,AN];refine#[hn,by simp,λa e b d z=>?_];let c:b=x:=by simpa using d
 let(p,hp,rfl):=As.mp e;exact h (AV.mpr #[p,hp,fU (z.trans c)])
inductive HpOk_ex(K:Aa)(H:Hp)(h:IS)(n:fC):Prop
 |mk (hp)(h0:H h=eV (.dK (hv hp)))(h1:CellsOk K H hp)(h2:(hp.map (·.1)).Nodup)(h3:hp.length<=n):HpOk_ex K H h n
structure HpOk(K:Aa)(H:Hp)(h:IS)(n:fC):Prop where
 ex:HpOk_ex K H h n
theorem HpOk.same(x:HpOk K H h n)(e:Same H H'):HpOk K H' h n:=by
 let(hp,h1,h2,h3,a):=x.ex;exact#[hp,e _ _ h1,h2.same e,h3,a]
theorem HpOk.put(b:H h=eV (.dK (hv hp)))(d:CellsOk K H hp)(hn:(hp.map (·.1)).Nodup)(hl:hp.length<=n)(c:SqT K H t [.int f,.int s]):HpOk K (upd H h (.dK (putK (hv hp) (Sum.inl x) (.ref t)))) h (n+1):=by
 rw[acx];refine#[_,ad,λp a=>?_,a85 _ _ _ hn,AA (aah _ _ _) (by lia)];rcases a9a a with z|z;let(e,s',y):=d p z;exact#[e,s',qq b y];rw[z];exact#[f,s,qq b c]
inductive spLaidS(K:Aa)(vs:eZ V)(H:Hp)(Q:VK):Prop
 |mk (h d b:IS)(m fr:fB)(kv:eZ (Key×V))(xs r:fJ)(n:fC)(h0:vs=[.ref h,.ref d,.ref b,.int m,.int fr])(h1:HpOk K H h n)(h2:n<=100)(h3:H d=eV (.dK kv))(h4:IntsAt kv)(h5:EntI kv)(h6:0<kv.length)(h7:kv.length<=100)(h8:RowAt K H b r)(h9:CPart xs r)(h10:(∀x∈xs,(valV kv (Sum.inr x)).isSome=eX))(h11:0<=m)(h12:∀H',Kp (· = h) H H'->HpOk K H' h (n+4)->Q .non H'):spLaidS K vs H Q
def a6b(K:Aa):Sp:=λvs H Q _=>spLaidS K vs H Q
theorem adt(C:Con K mg w)(F:Fun K "_law_laid" "_law_laid" abg f fd):FnOk P w K mg base CX0 1 f fd ["_law_heap","_law_values","_law_part","_law_m","_law_free"] (a6b K):=by
 refine F.okA ["_law_heap","_law_values","_law_part","_law_m","_law_free","_law_here","_law_k","_law_on","_law_off","_law_child"] λay A outer s0 H vs Q E hr h nd=>?_;let(h,d,b,m,fr,kv,xs,r,n,rfl,hH,hn,hd,hI,hE,ax,az,O,ar,av,hm,q):=h;let g:=j4 hr;exists _,fc (fz 5 nd (ik g (qv 1) (fi K (qv 2) dl) (λ_ _=>rfl)))
  (ff (gg (fo gk (fi K (qv 2) dl) gj (fm _)) (ff (jg g (qv 0) (qv 5) (ij (i7 (pj g (qv 1) (fi K (qv 2) dl) (fj i3 (qv 4) dl)) (i7 (pj g (qv 1) (fi K (qv 2) dl) (fj i3 (qv 4) dl)) fb))))) (ff (gg (QW.qt (j6 (fo gk (fi K (qv 2) dl) gj (fm _)) (je (fo kc (qv 5) (ik g (qv 1) (fi K (qv 2) dl) (λ_ _=>rfl)) (fm _))))) (fc (im A1 rfl (jk rfl C.range (j9 (fj gx (qv 3) dl) fb)) (ip 6 nd) (fc (fz 7 nd (gr K (ie (j9 (fj i3 (qv 4) (qv 6)) (ft (ik g (qv 1) (gr K (iz (lg rfl) rfl C.list Be (fg (qv 1) fb)) (fj gx (fj ib (qv 3) dl) (gn om rfl C.len AJ (fg (qv 1) fb)))) (λ_ _=>rfl)) fb))) (iz qp rfl C.int Eg (jq (r6 (j7 gk (fj gx (fj ib (qv 3) dl) dl) dl (fm _)) (ni (j7 gk (qv 6) dl (fm _)))) fb))))
  (ff (gg (QW.qt (j6 (fo kc (qv 7) dl (fm _)) (j6 (ku g (qv 7) (qv 0)) (je (fo kc (qv 7) (qv 5) (fm _)))))) (fc (jg g (qv 0) (qv 5) (ij (j9 (fj gx (fj ib (qv 3) dl) dl) (fg (qv 7) fb))))
  (ff (fz 5 nd (qv 7)))) gd))))
  (ff (jg g (qv 0) (qv 5) (ij (j9 (fj i3 (qv 4) dl) (ft (ik g (qv 1) (fi K (qv 2) dl) (λ_ _=>rfl)) fb)))))) (ff (gg (QW.qt (j6 (fo gk (fi K (qv 2) dl) gj (fm _)) (je (fo kc (qv 5) dl (fm _))))) (fc (fz 7 nd (gr K (ie (ja (fg (qv 4) (ja (fg (qv 4) fb))))) (fj gx (qv 3) dl)))
  (fc (fz 8 nd (gr K (ie (ja (ja (j9 (fj i3 (qv 4) dl) (j9 (fj i3 (qv 4) dl) fb))))) (fj gx (qv 3) dl)))
  (fc (jg g (qv 0) (qv 5) (ij (fg (qv 7) (fg (qv 8) fb))))
  (fc (im A1 rfl (iq (ie (fg (qv 7) (fg (qv 8) fb)))) (ip 9 nd) (ff (gg (fo kc (qv 9) dl (fm _)) (ff (jg g (qv 0) (qv 9) (ij (ft (gr K (ie (ja (j9 (fj i3 (qv 4) dl) fb))) (fj gx (fj ib (qv 3) dl) dl)) (ja fb))))) gd)))
  (ff (gg (QW.qt (j6 (fo gk (fj gx (fj ib (qv 3) dl) dl) dl (fm _)) (j6 (fo kc (qv 7) dl (fm _)) (je (fo gk (qv 8) dl (fm _)))))) (ff (jg g (qv 0) (fj i3 (qv 4) dl) (ij (ja (ja fb))))) gd)))))) gd))))))
 nofun
 let j:∀{M:Hp} {k:fC} {t:IS} {x f s:fB},Kp (· = h) H M->HpOk K M h k->k<=104->M t=eV (.tup [.int f,.int s])->∃hp,M h=eV (.dK (hv hp))/\(hv hp).length<IR/\Kp (· = h) H (upd M h (.dK (putK (hv hp) (Sum.inl x) (.ref t))))/\HpOk K (upd M h (.dK (putK (hv hp) (Sum.inl x) (.ref t)))) h (k+1):=λ{M k t x f s} k1 hk aA ht=>by
  let(hp,g1,u,G,I):=hk.ex;refine#[hp,g1,by unfold hv;rw[Ad];exact jf (by lia),λc o J L=>?_,HpOk.put g1 u G I (SqT.of ht)];rw[fh L];exact k1 c o J L
 let more:∀{M:Hp} {k k':fC},HpOk K M h k->k<=k'->HpOk K M h k':=λ{M k k'} x hk=>by
  let(hp,g1,u,G,I):=x.ex;exact#[hp,g1,u,G,AA I hk]
 let dh:¬ d=h:=λz=>by
  let(hp,g1,u,G,I):=hH.ex;rw[z,g1] at hd;let e:hv hp=kv:=HO.dK.inj (Am hd);cases kv with
  |nil=>exact fF ax (AZ _)
  |cons p l =>
   cases hp with
   |nil=>cases e
   |cons p' l' =>
    let(x,n,z):=hE p (Af ..);let e1:((Sum.inl p'.1,V.ref p'.2):Key×V)=p:=(List.cons.inj e).1;rw[z] at e1;cases fX EI e1
 let sk:∀{M:Hp},Same H M->Kp (· = h) H M:=λe c o J _=>e _ _ J;let val:∀{x:fS},x∈xs->valV kv (Sum.inr x)=eV (.int (vI kv x)):=λhx=>hI.at_ (av _ hx);rcases ar with⟨a,fw,s,rfl,ha,hf,hs⟩|⟨a,e,rfl,ha,he⟩|⟨a,rfl,ha⟩
 . let ga:=DGet.k (k:=Sum.inr a) hd;rw[val ha] at ga;exists _,fR,_,fR,b,_,1,.str a,fR,fR,O,fR,d,_,fR,ga;exists _,fR,b,_,0,.str "cell",fR,fR,O,fR,fR,_,rfl;exists _,fR,d,fR,.inl #[_,.inl hd],_,fR,b,_,2,.str fw,fR,fR,O,fR,_,fR,_,_,fR,fR,_,DGet.k (k:=Sum.inr fw) hd;rw[hI.get];exists _,fR,d,fR,.inl #[_,.inl hd],_,fR,b,_,3,.str s,fR,fR,O,fR,_,fR,_,_,fR,fR,_,DGet.k (k:=Sum.inr s) hd;rw[hI.get];refine#[fK,λt ht=>?_];let s1:=fe ht (.tup [.int (gI kv (fr+7) fw),.int (gI kv (fr+8) s)]);let(hp,g1,u,G,I):=j (x:=vI kv a) (sk s1) (hH.same s1) (by lia) ad;exact#[_,fR,_,fR,h,_,fR,DPut.k (k:=Sum.inl (vI kv a)) g1 u,q _ G (more I (by lia))]
 . let ga:=DGet.k (k:=Sum.inr a) hd;rw[val ha] at ga;let ai:∀{H':Hp},Kp (· = h) H H'->RowAt K H' b [("stretch":fS),a,e]:=λ{H'} k=>by
    let(hp,g1,_):=hH.ex;rcases O with (z|⟨o,z⟩)|z
    . exact .inl (.inl (k _ _ z (λy=>by let y':b=h:=y;rw[y',g1] at z;cases z)))
    . exact .inl (.inr #[o,k _ _ z (λy=>by let y':b=h:=y;rw[y',g1] at z;cases z)])
    exact .inr z
   exists _,fR,_,fR,b,_,1,.str a,fR,fR,O,fR,d,_,fR,ga;exists _,fR,b,_,0,.str "stretch",fR,fR,O,fR,fR,_,rfl;exists _,fR,b,_,0,.str "stretch",fR,fR,O,fR,fR,_,rfl;let ge:=DGet.k (k:=Sum.inr e) hd;rw[val he] at ge;refine#[_,fR,_,fR,_,fR,b,_,2,.str e,fR,fR,O,fR,d,_,fR,ge,fR,_,fR,iteB (λc1=>?_) (λc1=>?_)]
   rotate_left
   . exists _,fR,b,_,0,.str "stretch",fR,fR,O,fR,fR,_,rfl;exact q H (sk (Same.refl _)) (more hH (by lia))
   let b1:=AM m (show(3:fB)≠0 by decide);let b2:=AU m (show(0:fB)<3 by decide);obtain⟨k0,aj⟩:∃k0:fC,m % 3=(k0:fB):=#[(m % 3).toNat,by lia]
   refine#[_,fR,_,_,fR,fR,(show(0:fB)<3 by decide),_,fR,by lia,by lia,?_];rw[aj];refine kd (lo:=0) (n:=((k0:fC):fB).toNat) (λi σ H'=>Ex3 λ(x:fB) (z6 z7:fA V)=>And3 (σ=[rQ h,rQ d,rQ b,iQ m,iQ fr,iQ x,z6,z7,nQ,nQ]) (Kp (· = h) H H') (HpOk K H' h (n+i)))
    #[_,eW,eW,fR,sk (Same.refl _),hH] ?_ ?_
   . rintro i σ H' hi ⟨x,z6,z7,rfl,k5,o5⟩
     nofun
     rw[Dk];let W:=k5 _ _ hd dh;refine#[_,fR,_,fR,_,_,fR,fR,_,fR,_,fR,d,kv,fR,W,λl1 af=>?_];let s1:=fe af (.lst (kv.map λp=>kV p.1));let pos:(0:fB)<(kv.length:fB):=by lia
     let ag:=AM (m / 9) (show(kv.length:fB)≠0 by lia);let ac:=AU (m / 9) pos;let(v,aw,aq):=wt (xs:=kv.map λp=>kV p.1) (i:=m / 9 % (kv.length:fB)) ag (by rw[Ad];exact ac);let(pk,ak,rfl):=As.mp aq;let(y,ny,rfl):=hE pk ak;let hy:(valV kv (Sum.inr y)).isSome=eX:=by
      unfold valV;cases hf:kv.find? (λp=>decide (p.1=(Sum.inr y:Key))) with|some z=>rfl|none=>exact fF (BA.mp hf _ ak) (by simp)
     let gy:=DGet.k (k:=Sum.inr y) (s1 _ _ W);rw[hI.at_ hy] at gy;refine#[_,fR,_,_,fR,fR,(show CDiv _ 9 from#[by decide,by decide]),_,fR,d,kv,fR,s1 _ _ W,_,_,fR,fR,pos,l1,_,_,.str y,fR,fR,SqL.of ad,aw,d,_,fR,gy,fK,λX ab=>?_];let s2:=s1.trans (fe ab (.lst [.int (fr+i),.int (vI kv y)]));let T:(upd (upd H' l1 (.lst (kv.map λp=>kV p.1))) X (.lst [.int (fr+i),.int (vI kv y)])) X=eV (.lst [.int (fr+i),.int (vI kv y)]):=ad;let k2:Kp (· = h) H (upd (upd H' l1 (.lst (kv.map λp=>kV p.1))) X (.lst [.int (fr+i),.int (vI kv y)])):=λc o J L=>s2 _ _ (k5 c o J L);let S:=o5.same s2;let B:∀bb:gQ,∃on,atI [V.int (fr+i),V.int (vI kv y)] (if bb=eX then 1 else 0)=eV (.int on):=λbb=>by
      cases bb;exact#[_,fR];exact#[_,fR]
     generalize upd (upd H' l1 (.lst (kv.map λp=>kV p.1))) X (.lst [.int (fr+i),.int (vI kv y)])=H2 at s2 T k2 S |-;refine#[_,rfl,_,_,rfl,rfl,(show CDiv _ 3 from#[by decide,by decide]),_,_,rfl,rfl,(show(0:fB)<3 by decide),rfl,_,rfl,iteB (λc2=>?_) (λc2=>?_)];exists _,fR,fR,_,rfl;let(on,U):=B (decide (V.int (i:fB)=V.int 0));exists X,_,_,.int on,fR,fR,SqL.of T,U;let(hp,q1,q2,q3,q4):=S.ex;refine#[_,fR,fR,_,fR,iteB (λc3=>?_) (λc3=>#[_,_,_,fR,k2,more S (by lia)])];refine#[_,fR,_,fR,h,_,fR,DGet.k (k:=Sum.inl on) q1,_,fR,iteB (λc4=>?_) (λc4=>#[_,_,_,fR,k2,more S (by lia)])];refine#[_,fR,_,fR,fR,_,fR,iteB (λc5=>?_) (λc5=>#[_,_,_,fR,k2,more S (by lia)])];refine#[_,fR,_,_,fR,fR,(show CDiv _ 100 from#[by decide,by decide]),_,_,fR,fR,(show(0:fB)<50 by decide),_,fR,fK,λt7 D=>?_];let N:=fe D (.tup [.int (m / 100 % 50),.int on]);let(au,g1,u,G,I):=j (x:=x) (λc o J L=>N _ _ (k2 c o J L)) (S.same N) (by lia) ad;exact#[_,fR,_,fR,h,_,fR,DPut.k (k:=Sum.inl x) g1 u,_,fR,_,_,_,fR,G,more I (by lia)];exists _,rfl;let(on,U):=B eY;exists X,_,_,.int on,fR,fR,SqL.of T,U;let(hp,q1,q2,q3,q4):=S.ex;refine#[_,fR,fR,_,fR,iteB (λc3=>?_) (λc3=>#[_,_,_,fR,k2,more S (by lia)])];refine#[_,fR,_,fR,h,_,fR,DGet.k (k:=Sum.inl on) q1,_,fR,iteB (λc4=>?_) (λc4=>#[_,_,_,fR,k2,more S (by lia)])];refine#[_,fR,_,fR,fR,_,fR,iteB (λc5=>?_) (λc5=>#[_,_,_,fR,k2,more S (by lia)])];refine#[_,fR,_,_,fR,fR,(show CDiv _ 100 from#[by decide,by decide]),_,_,fR,fR,(show(0:fB)<50 by decide),_,fR,fK,λt7 D=>?_];let N:=fe D (.tup [.int (m / 100 % 50),.int on]);let(au,g1,u,G,I):=j (x:=x) (λc o J L=>N _ _ (k2 c o J L)) (S.same N) (by lia) ad;exact#[_,fR,_,fR,h,_,fR,DPut.k (k:=Sum.inl x) g1 u,_,fR,_,_,_,fR,G,more I (by lia)]
   rintro σ H' ⟨x,z6,z7,rfl,k5,o5⟩;let W:=k5 _ _ hd dh;let al:=DGet.k (k:=Sum.inr e) W;rw[val he] at al;refine#[_,fR,_,_,fR,fR,_,fR,_,fR,b,_,2,.str e,fR,fR,ai k5,fR,d,_,fR,al,fK,λt7 D=>?_];let N:=fe D (.tup [.int (fr+6),.int (vI kv e)]);let(hp,g1,u,G,I):=j (x:=x) (λc o J L=>N _ _ (k5 c o J L)) (o5.same N) (by lia) ad;exact#[_,fR,_,fR,h,_,fR,DPut.k (k:=Sum.inl x) g1 u,q _ G (more I (by lia))]
 let ga:=DGet.k (k:=Sum.inr a) hd;rw[val ha] at ga;exists _,fR,_,fR,b,_,1,.str a,fR,fR,O,fR,d,_,fR,ga;exists _,fR,b,_,0,.str "tree",fR,fR,O,fR,fR,_,rfl;exists _,fR,b,_,0,.str "tree",fR,fR,O,fR,fR,_,rfl;exists _,fR,b,_,0,.str "tree",fR,fR,O,fR,fR,_,rfl;refine#[_,fR,fR,_,fR,iteB (λc1=>?_) (λc1=>?_)]
 rotate_left
 . exact q H (sk (Same.refl _)) (more hH (by lia))
 let b1:=AM m (show(4:fB)≠0 by decide);let b2:=AU m (show(0:fB)<4 by decide);let B:∀(ns:eZ fB) (i:fB),0<=i->i<ns.length->∃n,atI (ns.map V.int) i=eV (.int n):=λns i h0 h1=>by
  let(v,g1,u):=wt (xs:=ns.map V.int) (i:=i) h0 (by rw[Ad];exact h1);let(n,_,rfl):=As.mp u;exact#[n,g1]
 let(on,U):=B [0,fr,0,fr] (m % 4) b1 b2;let(off,ah):=B [0,0,fr+1,fr+1] (m % 4) b1 b2;refine#[_,fR,_,fR,fO,λl1 af=>?_];let s1:=fe af (.lst [.int 0,.int fr,.int 0,.int fr]);exists _,fR,_,_,fR,fR,(show(0:fB)<4 by decide),l1,_,_,.int on,fR,fR,SqL.of ad,U;generalize upd H l1 (.lst [.int 0,.int fr,.int 0,.int fr])=M at s1 |-;refine#[_,rfl,_,_,rfl,rfl,_,rfl,_,_,rfl,rfl,fO,λX ab=>?_];let s2:=s1.trans (fe ab (.lst [.int 0,.int 0,.int (fr+1),.int (fr+1)]));exists _,fR,_,_,fR,fR,(show(0:fB)<4 by decide),X,_,_,.int off,fR,fR,SqL.of ad,ah;generalize upd M X (.lst [.int 0,.int 0,.int (fr+1),.int (fr+1)])=H2 at s2 |-;refine#[_,rfl,_,rfl,fK,λt ht=>?_];let s3:=s2.trans (fe ht (.tup [.int on,.int off]));let(hp,g1,u,G,I):=j (x:=vI kv a) (sk s3) (hH.same s3) (by lia) ad;exists _,fR,_,fR,h,_,fR,DPut.k (k:=Sum.inl (vI kv a)) g1 u;generalize upd (upd H2 t (.tup [.int on,.int off])) h (.dK (putK (hv hp) (Sum.inl (vI kv a)) (.ref t)))=H3 at G I |-;refine#[_,rfl,_,rfl,fK,λl3 ao=>#[l3,fR,#[_,SqL.of ad],?_]];let s4:=fe ao (.lst [.int on,.int off]);let k4:Kp (· = h) H (upd H3 l3 (.lst [.int on,.int off])):=λc o J L=>s4 _ _ (G c o J L);let o4:=I.same s4;let Y:(upd H3 l3 (.lst [.int on,.int off])) l3=eV (.lst [.int on,.int off]):=ad;generalize upd H3 l3 (.lst [.int on,.int off])=H4 at k4 o4 Y |-;let ap:¬ l3=h:=λz=>by
  let(hp,g1,_):=o4.ex;rw[z,g1] at Y;cases Y
 refine jj (xs:=[.int on,.int off]) (λi σ H'=>∃z9,σ=[rQ h,rQ d,rQ b,iQ m,iQ fr,iQ (vI kv a),nQ,iQ on,iQ off,z9]/\Kp (· = h) H H'/\HpOk K H' h (n+1+i)/\H' l3=eV (.lst [.int on,.int off])/\i<=2)
  #[eW,fR,k4,o4,Y,AF _] (λi σ H' _ pv=>by let(_,_,_,_,h,_):=pv;exact SqL.of h) ?_ ?_
 . rintro i v σ H' R ⟨z9,rfl,k5,o5,ae,hi⟩
   nofun
   let aB:i<2:=(Ao.mp R).1;obtain⟨ch,rfl⟩:∃ch:fB,v=.int ch:=by
    match i,R with
    |0,R=>cases R;exact#[_,fR]
    |1,R=>cases R;exact#[_,fR]
   refine#[_,fR,fR,_,fR,iteB (λc2=>?_) (λc2=>?_)];let ag:=AM (m / 4) (show(2:fB)≠0 by decide);let ac:=AU (m / 4) (show(0:fB)<2 by decide);let(w1,an):=B [0,fr+2] (m / 4 % 2) ag ac;refine#[_,fR,_,_,fR,fR,fK,λl6 am=>?_];let s6:=fe am (.lst [.int 0,.int (fr+2)]);refine#[_,fR,_,_,fR,fR,(show CDiv _ 4 from#[by decide,by decide]),_,_,fR,fR,(show(0:fB)<2 by decide),l6,_,_,.int w1,fR,fR,SqL.of ad,an,fK,λt7 D=>?_];let N:=s6.trans (fe D (.tup [.int w1,.int 0]));let aa:(upd (upd H' l6 (.lst [.int 0,.int (fr+2)])) t7 (.tup [.int w1,.int 0])) t7=eV (.tup [.int w1,.int 0]):=ad;generalize upd (upd H' l6 (.lst [.int 0,.int (fr+2)])) t7 (.tup [.int w1,.int 0])=H7 at N aa |-;let(hp,g1,u,G,I):=j (x:=ch) (λc o J L=>N _ _ (k5 c o J L)) (o5.same N) (by lia) aa;exact#[_,fR,_,fR,h,_,fR,DPut.k (k:=Sum.inl ch) g1 u,_,fR,G,more I (by lia),by rw[fh ap];exact N _ _ ae,by lia];exact#[_,fR,k5,more o5 (by lia),ae,by lia]
 rintro σ H' ⟨z9,rfl,k5,o5,ae,hi⟩;let Z:HpOk K H' h (n+3):=o5;refine#[_,fR,_,_,fR,fR,(show CDiv _ 4 from#[by decide,by decide]),_,_,fR,fR,(show(0:fB)<2 by decide),fR,_,fR,iteB (λc2=>?_) (λc2=>q _ k5 (more Z (by lia)))];refine#[_,fR,fR,_,fR,iteB (λc3=>?_) (λc3=>q _ k5 (more Z (by lia)))];refine#[_,fR,fR,_,fR,iteB (λc4=>?_) (λc4=>q _ k5 (more Z (by lia)))];refine#[fK,λt7 D=>?_];let N:=fe D (.tup [.int 0,.int 0]);let(hp,g1,u,G,I):=j (x:=fr+2) (λc o J L=>N _ _ (k5 c o J L)) (Z.same N) (by lia) ad;exact#[_,fR,_,fR,_,_,fR,fR,h,_,fR,DPut.k (k:=Sum.inl (fr+2)) g1 u,q _ G (more I (by lia))]
end K37
namespace L2
open PyProof.Rows
end L2
namespace K37
open L2 Mir Kn
theorem a8y(h:QE X o td)(c:QE X e ty)(d:QE X f g)(m:autoParam (M2 X o "pop" b e f a) a9_):QE X (.Call (.Attribute o "pop" b) [e,f] [] a) (a66 td ty g):=#[a9h h.run c.run d.run m]
structure VlOk(kv:eZ (Key×V))(xs:fJ)(n:fC):Prop where
 ent:EntI kv
 nil:valV kv (Sum.inr "nil")=eV (.int 0)
 pos:∀x n,valV kv (Sum.inr x)=eV (.int n)->0<=n
 all:∀x∈xs,(valV kv (Sum.inr x)).isSome=eX
 len:kv.length<=n
theorem a28{kv:eZ (Key×V)}(h:(valV kv k).isSome=eX):(putK kv k v).length=kv.length:=by
 unfold putK;rw[fE (by rw[ko,h])];exact Ad ..
theorem VlOk.put(h:VlOk kv xs n){x:fS}(b:0<=v)(d:x="nil" -> v=0):VlOk (putK kv (Sum.inr x) (.int v)) (xs++[x]) (n+1):=by
 refine#[h.ent.put x v,?_,λy m a=>?_,λy a=>?_,by let:=jp kv (Sum.inr x) (.int v);let:=h.len;lia];rw[jx];by_cases c:(Sum.inr ("nil":fS):Key)=Sum.inr x;rw[fE c,d (BR c).symm];rw[fD c];exact h.nil;rw[jx] at a;by_cases c:(Sum.inr y:Key)=Sum.inr x;rw[fE c] at a;cases a;exact b;rw[fD c] at a;exact h.pos y m a
 rw[jx];by_cases c:(Sum.inr y:Key)=Sum.inr x;rw[fE c];rfl
 rw[fD c];rcases Ab.mp a with z|z;exact h.all y z;exact fF (fX Sum.inr (Ae.mp z)) c
theorem VlOk.put2(h:VlOk kv xs n)(d:x∈xs)(a:0<=v)(c:x="nil" -> v=0):VlOk (putK kv (Sum.inr x) (.int v)) xs n:=by
 let p:=h.put a c;exact#[p.ent,p.nil,p.pos,λy b=>p.all y (Ab.mpr (.inl b)),by rw[a28 (h.all x d)];exact h.len]
theorem VlOk.at_(h:VlOk kv xs n)(b:(valV kv (Sum.inr x)).isSome=eX):∃v,valV kv (Sum.inr x)=eV (.int v)/\0<=v:=by
 let(v,hv):=Bd.mp b;let hm:(Sum.inr x,v)∈kv:=by
  unfold valV at hv;cases hf:kv.find? (λp=>decide (p.1=(Sum.inr x:Key))) with
  |none=>rw[hf] at hv;cases hv
  |some q =>
   rw[hf] at hv;let h1:q.1=Sum.inr x:=by simpa using Cy hf
   let h2:q.2=v:=Am hv;rw[<- h1,<- h2];exact Bj hf
 let(y,k,e):=h.ent _ hm;let a:v=.int k:=fX Prod.snd e;exact#[k,by rw[hv,a],h.pos x k (by rw[hv,a])]
theorem VlOk.some_(h:VlOk kv xs n)(i:fB):∃(y:fS) (v:fB),atI (kv.map λp=>kV p.1) (i % (kv.length:fB))=eV (.str y)/\valV kv (Sum.inr y)=eV (.int v)/\0<=v/\(0:fB)<(kv.length:fB):=by
 let pos:(0:fB)<(kv.length:fB):=by
  cases kv with|nil=>let:=h.nil;cases this|cons p l=>exact Int.natCast_pos.mpr (Hn _)
 let g:=AM i (show(kv.length:fB)≠0 by lia);let e:=AU i pos;let(v,c,b):=wt (xs:=kv.map λp=>kV p.1) (i:=i % (kv.length:fB)) g (by rw[Ad];exact e);let(f,a,rfl):=As.mp b;let(y,j,rfl):=h.ent f a;let d:(valV kv (Sum.inr y)).isSome=eX:=by
  unfold valV;cases hf:kv.find? (λp=>decide (p.1=(Sum.inr y:Key))) with|some z=>rfl|none=>exact fF (BA.mp hf _ a) (by simp)
 let(u,h1,h2):=h.at_ d;exact#[y,u,c,h1,h2,pos]
inductive spGrownS(K:Aa)(vs:eZ V)(H:Hp)(Q:VK):Prop
 |mk (tl nl:IS)(c:fB)(F P:fG)(ys:fJ)(h0:vs=[.ref tl,.ref nl,.int c])(h1:T2At K H tl F P)(h2:H nl=eV (.lst (ys.map V.str)))(h3:ys.length=5)(h4:¬ ("nil":fS)∈ys)(h5:F.length<=3)(h6:(∀r∈F,PoolRow (ys++[("nil":fS)]) r))(h7:P.length<=5)(h8:(∀r∈P,CPart (ys++[("nil":fS)]) r))(h9:∀t d h kv hp H',Same H H'->H' t=eV (.tup [.ref d,.ref h])->H' d=eV (.dK kv)->VlOk kv (("nil":fS)::ys) 6->H' h=eV (.dK (hv hp))->CellsOk K H' hp->(hp.map (·.1)).Nodup->hp.length<=20->(∀p∈hp,p.1≠0)->Q (.ref t) H'):spGrownS K vs H Q
def a2y(K:Aa):Sp:=λvs H Q _=>spGrownS K vs H Q
theorem a8s(C:Con K mg w)(F:Fun K "_law_grown" "_law_grown" a7q f fd)(GM:FnOk P w K mg base CX0 1 gM dM eS nk)(cM:eQ GM "_law_mixed")(GL:FnOk P w K mg base CX0 1 gL dL eT (a6b K))(cL:eQ GL "_law_laid"):FnOk P w K mg base CX0 2 f fd ["_law_telling","_law_names_here","_law_cell"] (a2y K):=by
 refine F.okA ["_law_telling","_law_names_here","_law_cell","_law_values","_law_k","_law_m","_law_turn","_law_word","_law_a","_law_b","_law_heap"] λaR A outer s0 H vs Q E hr h nd=>?_;let(tl,nl,c,Fs,Ps,ys,rfl,hT,af,al,aM,aW,hF,aU,hP,q):=h;let r:=j4 hr;exists _,fc (fz 3 nd (pb gj dl))
  (fc (im A1 rfl (jk rfl C.range (i7 (gn i6 rfl C.len AJ (fg (qv 1) fb)) fb)) (ip 4 nd) (fc (fz 5 nd (gm GM hr cM (fg (qv 2) (j9 (fj i3 dl (qv 4)) fb))))
  (fc (jg r (qv 3) (gr K (qv 1) (qv 4)) (fj i3 dl (qv 4)))
  (ff (gg (fo gk (fj gx (qv 5) dl) dl (fm _)) (ff (jg r (qv 3) (gr K (qv 1) (qv 4)) (ik r (qv 3) (gr K (iz (lg rfl) rfl C.list Be (fg (qv 3) fb)) (fj gx (fj ib (qv 5) dl) (gn om rfl C.len AJ (fg (qv 3) fb)))) (λ_ _=>rfl)))) gd)))))
  (fc (im A1 rfl (jk rfl C.range (ja fb)) (ip 6 nd) (ff (im A1 rfl (iq (fi K (qv 0) dl)) (a3w (ip 7 nd) (ip 8 nd) (ip 9 nd)) (ff (gg (fo gk (qv 7) gj (fm _)) (fc (jg r (qv 3) (qv 8) (gn (a5s rfl) rfl C.min PyProof.Rows.Boot.min (ft (ik r (qv 3) (qv 8) (λ_ _=>rfl)) (ft (ik r (qv 3) (qv 9) (λ_ _=>rfl)) fb))))
  (ff (jg r (qv 3) (qv 9) (ik r (qv 3) (qv 8) (λ_ _=>rfl))))) gd)))))
  (fc (fz 10 nd lx)
  (fc (im A1 rfl (jk rfl C.range (i7 (gn i6 rfl C.len AJ (ft (fi K (qv 0) dl) fb)) fb)) (ip 4 nd) (ff (ia (gm GL hr cL (fg (qv 10) (fg (qv 3) (ft (gr K (fi K (qv 0) dl) (qv 4)) (i7 (gm GM hr cM (fg (qv 2) (j9 (fj i3 dl (qv 4)) fb))) (j9 (fj i3 dl (fj li dl (qv 4))) fb)))))))))
  (fc (ia (a8y (qv 10) dl gu))
  (ff (fx (ij (fg (qv 3) (fg (qv 10) fb))))))))))
 nofun
 let y5:(ys.map V.str).length=5:=by rw[Ad,al]
 intro d N;exists ad,[(Sum.inr "nil",.int 0)],fR,fQ;let s1:Same H (upd (upd H d (.dK [])) d (.dK (jd [] [(Sum.inr "nil",.int 0)]))):=gz N (fe N _) _;let am:(upd (upd H d (.dK [])) d (.dK (jd [] [(Sum.inr "nil",.int 0)]))) d=eV (.dK [(Sum.inr "nil",.int 0)]):=by rw[ad];rfl
 generalize upd (upd H d (.dK [])) d (.dK (jd [] [(Sum.inr "nil",.int 0)]))=H1 at s1 am |-;let V0:VlOk [(Sum.inr "nil",.int 0)] ["nil"] 1:=by
  refine#[λq hq=>#["nil",0,Ae.mp hq],il (p:=((Sum.inr "nil",V.int 0):Key×V)) rfl,λx n hx=>?_,λx hx=>?_,An _];by_cases c:(Sum.inr ("nil":fS):Key)=Sum.inr x;rw[il (p:=((Sum.inr "nil",V.int 0):Key×V)) c] at hx;cases hx;exact Int.le_refl _;rw[iw (p:=((Sum.inr "nil",V.int 0):Key×V)) c] at hx;cases hx
  rw[Ae.mp hx,il (p:=((Sum.inr "nil",V.int 0):Key×V)) rfl];rfl
 refine#[_,fR,nl,_,fR,.inl (SqL.of (s1 _ _ af)),_,fR,by lia,by lia,?_];let aD:((ys.map V.str).length:fB)=5:=by rw[y5];rfl
 rw[aD];refine kd (lo:=0) (n:=(5:fB).toNat) (λi σ s=>Ex3 λ(kv:eZ (Key×V)) (I G:fA V)=>And4 (σ=[rQ tl,rQ nl,iQ c,rQ d,I,G,nQ,nQ,nQ,nQ,nQ]) (Same H s) (s d=eV (.dK kv)) (VlOk kv (("nil":fS)::ys.take i) (1+i)))
  #[_,eW,eW,fR,s1,am,V0] ?_ ?_
 . rintro i σ s hi ⟨kv,I,G,rfl,e2,ah,V2⟩
   nofun
   rw[Dk];let aS:i<5:=hi;let ar:ys[i]?=eV ys[i]:=Ah (by lia);let ay:atI (ys.map V.str) (i:fB)=eV (.str ys[i]):=jo (by rw[Ap,ar];rfl);let ac:ys[i]≠"nil" := λz=>aM (z ▸ AH (by lia));let et:ys.take (i+1)=ys.take i++[ys[i]]:=by rw[AL,ar];rfl
   refine#[_,fR,_,fR,_,_,fR,fR,c,23+i,fR,by lia,λm hm=>?_];let J:=V2.put (x:=ys[i]) (v:=3+(i:fB)) (by lia) (λz=>fF z ac);let aI:kv.length<=1000:=by let:=V2.len;lia
   exists _,fR,_,_,fR,fR,_,fR,_,fR,_,fR,nl,_,_,.str ys[i],fR,fR,SqL.of (e2 _ _ af),ay,d,_,fR,DPut.k (k:=Sum.inr ys[i]) ah (jf aI);let Z:Same H (upd s d (.dK (putK kv (Sum.inr ys[i]) (.int (3+(i:fB)))))):=gz N e2 _;let j:(upd s d (.dK (putK kv (Sum.inr ys[i]) (.int (3+(i:fB)))))) d=eV (.dK (putK kv (Sum.inr ys[i]) (.int (3+(i:fB))))):=ad;rw[DZ,<- et] at J;generalize upd s d (.dK (putK kv (Sum.inr ys[i]) (.int (3+(i:fB)))))=H3 at Z j |-;generalize putK kv (Sum.inr ys[i]) (.int (3+(i:fB)))=aa at J j |-;refine#[_,rfl,_,_,rfl,rfl,(show(0:fB)<6 by decide),rfl,_,rfl,iteB (λc1=>?_) (λc1=>#[aa,_,_,fR,Z,j,J])];refine#[_,fR,_,fR,d,aa,fR,j,λl1 aL=>?_];let s4:=fe aL (.lst (aa.map λp=>kV p.1));let(y,u,aE,aP,aC,pos):=J.some_ (m / 6);let gy:=DGet.k (k:=Sum.inr y) (s4 _ _ j);rw[aP] at gy;exists _,fR,_,_,fR,fR,(show CDiv _ 6 from#[by decide,by decide]),_,fR,d,aa,fR,s4 _ _ j,_,_,fR,fR,pos,l1,_,_,.str y,fR,fR,SqL.of ad,aE,d,_,fR,gy;let M:=Z.trans s4;exists _,fR,_,fR,_,fR,nl,_,_,.str ys[i],fR,fR,SqL.of (M _ _ af),ay,d,_,fR,DPut.k (k:=Sum.inr ys[i]) (s4 _ _ j) (jf (by let:=J.len;lia));exact#[_,_,_,fR,gz N M _,ad,J.put2 (by rw[et];exact Ag _ (Ab.mpr (.inr (Ae.mpr rfl)))) aC (λz=>fF z ac)]
 rintro σ s ⟨kv,I,G,rfl,e2,ah,V2⟩;let aQ:VlOk kv (("nil":fS)::ys) 6:=by
  let:ys.take (5:fB).toNat=ys:=B0 (by rw[al];exact An _);rw[this] at V2;exact V2
 refine#[_,fR,by decide,by decide,?_];let(fa,pa,ht,aJ,aG):=id hT;let(aN,ax,ak):=id aJ;refine kd (lo:=0) (n:=(3:fB).toNat) (λi σ s=>Ex7 λ(kv:eZ (Key×V)) (I G O R W S:fA V)=>And4 (σ=[rQ tl,rQ nl,iQ c,rQ d,I,G,O,R,W,S,nQ]) (Same H s) (s d=eV (.dK kv)) (VlOk kv (("nil":fS)::ys) 6))
  #[kv,_,_,_,_,_,_,fR,e2,ah,aQ] ?_ ?_
 . rintro i σ H3 hi ⟨kv,I,G,O,R,W,S,rfl,Z,j,J⟩
   nofun
   exists _,fR,tl,_,0,.ref fa,fR,fR,Z.seqT ht,fR,fa,fR,#[_,SqL.of (Z _ _ ax)];refine jj (xs:=aN.map V.ref) (λi σ s=>Ex7 λ(kv:eZ (Key×V)) (I G O R W S:fA V)=>And4 (σ=[rQ tl,rQ nl,iQ c,rQ d,I,G,O,R,W,S,nQ]) (Same H s) (s d=eV (.dK kv)) (VlOk kv (("nil":fS)::ys) 6))
    #[kv,_,_,_,_,_,_,fR,Z,j,J] (λi σ H' _ pv=>by let(_,_,_,_,_,_,_,_,e,_):=pv;exact SqL.of (e _ _ ax)) ?_ ?_
   . rintro i v σ H4 hv ⟨kv,I,G,O,R,W,S,rfl,M,l,U⟩
     nofun
     let(b,hb,rfl):=lk hv;let Y:i<Fs.length:=by rw[<- A3 ak];exact(Ao.mp hb).1
     let hy:Fs[i]?=eV Fs[i]:=Ah Y;let L:=(Paired.at2 ak hb hy).same M;let(wd,a,b',aH,aX,ha,aq):=hF _ (AH Y);rw[aH] at L;exists b,_,fR,L,fR,_,_,fR,_,_,fR,_,_,fR,rfl;refine#[_,fR,fR,_,fR,iteB (λc1=>?_) (λc1=>#[kv,_,_,_,_,_,_,fR,M,l,U])];let mem:∀{x:fS},x∈ys++[("nil":fS)]->x∈("nil":fS)::ys:=λ{x} h=>by
      rcases Ab.mp h with z|z;exact Ag _ z;rw[Ae.mp z];exact Af ..
     let(X,ga,aT):=U.at_ (U.all _ (mem ha));let(T,gb,aV):=U.at_ (U.all _ (mem aq));let da:=DGet.k (k:=Sum.inr a) l;rw[ga] at da;let db:=DGet.k (k:=Sum.inr b') l;rw[gb] at db;let ae:a="nil" \/ b'="nil" -> (if T<X then T else X)=0:=λz=>by
      rcases z with z|z;rw[z,U.nil] at ga;cases ga;rw[fD (by lia)];rw[z,U.nil] at gb;cases gb;split<;>lia
     let aw:0<=(if T<X then T else X):=by split<;>lia
     exists _,fR,_,fR,d,_,fR,da,_,fR,_,fR,d,_,fR,db,X,T,fR,_,fR,_,fR,d,_,fR,DPut.k (k:=Sum.inr a) l (jf (by let:=U.len;lia));let V5:=U.put2 (mem ha) aw λz=>ae (.inl z);let e5:Same H (upd H4 d (.dK (putK kv (Sum.inr a) (.int (if T<X then T else X))))):=gz N M _;let B:(upd H4 d (.dK (putK kv (Sum.inr a) (.int (if T<X then T else X))))) d=eV (.dK (putK kv (Sum.inr a) (.int (if T<X then T else X)))):=ad;let ao:=DGet.k (k:=Sum.inr a) B;rw[jx,fE rfl] at ao;exists _,fR,_,fR,d,_,fR,ao,_,fR,_,fR,d,_,fR,DPut.k (k:=Sum.inr b') B (jf (by let:=V5.len;lia));exact#[_,_,_,_,_,_,_,fR,gz N e5 _,ad,V5.put2 (mem aq) aw λz=>ae (.inr z)]
   rintro σ H4 ⟨kv,I,G,O,R,W,S,rfl,M,l,U⟩;exact#[kv,_,_,_,_,_,_,fR,M,l,U]
 rintro σ H3 ⟨kv,I,G,O,R,W,S,rfl,Z,j,J⟩;intro h hh;let s4:=fe hh (.dK []);let au:d≠h:=gc j hh;let az:H h=eW:=Z.free hh;let M:=Z.trans s4;let l:(upd H3 h (.dK [])) d=eV (.dK kv):=s4 _ _ j;let o4:HpOk K (upd H3 h (.dK [])) h 0:=#[[],ad,λp hp=>(Aq hp).elim,Bh,An _]
 generalize upd H3 h (.dK [])=H4 at M l o4 |-;let(D,an,aB):=id aG;let ai:=A3 aB;refine#[_,fR,tl,_,1,.ref pa,fR,fR,M.seqT ht,fR,pa,_,fR,.inl (SqL.of (M _ _ an)),_,fR,by rw[Ad,ai];lia,by rw[Ad,ai];lia,?_];let aK:((D.map V.ref).length:fB)=(Ps.length:fB):=by rw[Ad,ai]
 rw[aK];refine kd (lo:=0) (n:=((Ps.length:fC):fB).toNat) (λi σ s=>Ex6 λ(I G O R W S:fA V)=>And4 (σ=[rQ tl,rQ nl,iQ c,rQ d,I,G,O,R,W,S,rQ h]) (Same H s) (s d=eV (.dK kv)) (HpOk K s h (4*i)))
  #[_,_,_,_,_,_,fR,M,l,o4] ?_ ?_
 . rintro i σ H5 hi ⟨I,G,O,R,W,S,rfl,e5,B,o5⟩
   nofun
   rw[Dk];let Y:i<Ps.length:=by lia
   let aA:D[i]?=eV D[i]:=Ah (by lia);let aO:Ps[i]?=eV Ps[i]:=Ah Y;let L:=(Paired.at2 aB aA aO).same e5;let ap:atI (D.map V.ref) (i:fB)=eV (.ref D[i]):=jo (by rw[Ap,aA];rfl);refine#[_,fR,_,fR,_,fR,tl,_,1,.ref pa,fR,fR,e5.seqT ht,fR,_,fR,pa,_,_,.ref D[i],fR,fR,SqL.of (e5 _ _ an),ap,_,fR,_,fR,_,_,fR,fR,c,41+i,fR,by lia,λm hm=>?_];exists _,fR,_,_,fR,fR,(show CMul 10 (i:fB) from .inl #[by decide,by decide]),_,_,fR,rfl;let hI:IntsAt kv:=λx=>by
    cases hz:valV kv (Sum.inr x) with
    |none=>exact .inl rfl
    |some v =>
     let(n,h1,_):=J.at_ (x:=x) (by rw[hz];rfl);refine .inr ?_;unfold vI;rw[h1] at hz;rw[h1];cases hz;rfl
   refine#[h,d,D[i],m,_,kv,ys++[("nil":fS)],Ps[i],4*i,fR,o5,by lia,B,hI,J.ent,?_,by let:=J.len;lia,L,hP _ (AH Y),λx hx=>?_,hm,λH6 k6 o6=>?_];let:=(J.some_ 0);let(_,_,_,_,_,z):=this;lia;refine J.all x ?_;rcases Ab.mp hx with z|z;exact Ag _ z;rw[Ae.mp z];exact Af ..
   exact#[_,_,_,_,_,_,fR,λb o hb=>k6 b o (e5 _ _ hb) (λz=>by let z':b=h:=z;rw[z',az] at hb;cases hb),k6 _ _ B (λz=>au z),o6]
 rintro σ H5 ⟨I,G,O,R,W,S,rfl,e5,B,o5⟩;let(hp,g1,g2,g3,g4):=o5.ex;let done:∀(g:eZ (fB×IS)) (H6:Hp),Same H H6->H6 d=eV (.dK kv)->H6 h=eV (.dK (hv g))->CellsOk K H6 g->(g.map (·.1)).Nodup->g.length<=20->(∀p∈g,p.1≠0)->∀t,H6 t=eW->Q (.ref t) (upd H6 t (.tup [.ref d,.ref h])):=λg H6 e6 aj ag c6 n6 l6 O t ht=>by
  let s7:=fe ht (.tup [.ref d,.ref h]);exact q t d h kv g _ (e6.trans s7) ad (s7 _ _ aj) J (s7 _ _ ag) (c6.same s7) n6 l6 O
 let av:hp.length<=20:=by lia
 refine#[_,fR,h,fR,.inl #[_,.inl g1],hv hp,Sum.inl 0,g1,fR,λv ab=>?_,λab=>?_]
 . let c6:CellsOk K (upd H5 h (.dK (kg (hv hp) (Sum.inl 0)))) (hp.filter λp => !decide (p.1=0)):=λp g=>by
    let(f',s',y):=g2 p (Bc.mp g).1;exact#[f',s',qq g1 y]
   let ag:(upd H5 h (.dK (kg (hv hp) (Sum.inl 0)))) h=eV (.dK (hv (hp.filter λp => !decide (p.1=0)))):=by rw[ad,a9v]
   let aj:(upd H5 h (.dK (kg (hv hp) (Sum.inl 0)))) d=eV (.dK kv):=by rw[fh au];exact B
   exact#[_,fR,_,fR,fK,done _ _ (gz az e5 _) aj ag c6 (CW (List.Sublist.map _ CL) g3) (AA (B4 _ _) av) (λp g z=>by let:=(Bc.mp g).2;rw[fU z] at this;cases this)]
 refine#[_,fR,_,fR,fK,done hp H5 e5 B g1 g2 g3 av λp g z=>?_];unfold valV hv at ab;let aF:((hp.map λp=>((Sum.inl p.1,V.ref p.2):Key×V)).find? λq=>decide (q.1=(Sum.inl 0:Key)))=eW:=by
  cases hf:((hp.map λp=>((Sum.inl p.1,V.ref p.2):Key×V)).find? λq=>decide (q.1=(Sum.inl 0:Key))) with|none=>rfl|some q=>rw[hf] at ab;cases ab
 exact BA.mp aF _ (As.mpr #[p,g,fR]) (by rw[z];exact fU rfl)
theorem PoolRow.fact{xs:fJ}{r:fJ}(h:PoolRow xs r):i5 r:=by
 let(k,u,v,h1,h2,_,_):=h;exact#[k,u,v,h1,h2]
theorem PoolRow.in_(h:PoolRow xs r):∀x∈r.drop 1,x∈xs:=by
 let(k,u,v,rfl,h2,h3,c):=h;intro x b;let a:x∈[u,v]:=b;simp only[Ak,Aq,gD] at a;rcases a with rfl|rfl;exact h3;exact c
theorem CPart.row(h:CPart xs r):PartRow r:=by
 rcases h with⟨a,f,s,h,_⟩|⟨a,b,h,_⟩|⟨a,h,_⟩
 . exact .inl #[a,f,s,h]
 . exact .inr (.inl #[a,b,h])
 exact .inr (.inr #[a,h])
theorem CPart.in_(h:CPart xs r):∀x∈r.drop 1,x="any" \/ x∈xs:=by
 rcases h with⟨a,f,s,rfl,h1,h2,h3⟩|⟨a,b,rfl,h1,h2⟩|⟨a,rfl,h1⟩
 . intro x d;let c:x∈[a,f,s]:=d;simp only[Ak,Aq,gD] at c;rcases c with rfl|rfl|rfl;exact .inr h1;exact h2.symm;exact .inr h3
 . intro x d;let c:x∈[a,b]:=d;simp only[Ak,Aq,gD] at c;rcases c with rfl|rfl;exact .inr h1;exact .inr h2
 intro x d;let c:x∈[a]:=d;rw[Ae.mp c];exact .inr h1
theorem CPart.pd(h:CPart xs r)(hd:∀x∈r.drop 1,x∈xs->D x):Fol.PartD D r:=by
 rcases h with⟨a,f,s,rfl,h1,h2,h3⟩|⟨a,b,rfl,h1,h2⟩|⟨a,rfl,h1⟩
 . exact .cell (hd a (Af ..) h1) (h2.elim (λz=>.inr (hd f (Ag _ (Af ..)) z)) .inl) (.inr (hd s (Ag _ (Ag _ (Af ..))) h3))
 . exact .str (hd a (Af ..) h1) (hd b (Ag _ (Af ..)) h2)
 exact .tree (hd a (Af ..) h1)
structure Ys(ys:fJ):Prop where
 len:ys.length=5
 nm:∀x∈ys,Nm 40 x/\¬ x∈Mir.noNames
theorem Ys.sp(Y:Ys ys){Pr:fS->Prop}(h1:∀x∈ys,Pr x)(h2:Pr "nil"):∀x∈ys++[("nil":fS)],Pr x:=λx a=>by
 rcases Ab.mp a with z|z;exact h1 x z;rw[Ae.mp z];exact h2
theorem Ys.short(Y:Ys ys):∀x∈ys++[("nil":fS)],a52 x:=Y.sp (λx a=>AA (Y.nm x a).1.len (by decide)) (show Cp "nil" <= 1000 by decide)
theorem Ys.na(Y:Ys ys):∀x∈ys++[("nil":fS)],¬ x="any" := Y.sp (λx a e=>(Y.nm x a).2 (by rw[e];decide)) (by decide)
theorem Ys.nn(Y:Ys ys):¬ ("nil":fS)∈ys:=λh=>(Y.nm _ h).2 (by decide)
theorem Ys.fs(Y:Ys ys)(hF:∀r∈F,PoolRow (ys++[("nil":fS)]) r)(b:F.length<=5):ju F:=#[by lia,λr c=>by
 let(k,u,v,rfl,d,h1,h2):=hF r c;refine#[(show 3<=5 by decide),λx a=>?_];simp only[Ak,Aq,gD] at a;rcases a with rfl|rfl|rfl;rcases d with rfl|rfl;exact(show Cp "is" <= 1000 by decide);exact(show Cp "not" <= 1000 by decide);exact Y.short _ h1
 exact Y.short _ h2]
theorem Ys.ps(Y:Ys ys)(e:∀r∈P,CPart (ys++[("nil":fS)]) r)(h:P.length<=5):ju P:=#[by lia,λr g=>by
 let d:∀x∈r.drop 1,a52 x:=λx c=>((e r g).in_ x c).elim (λz=>z ▸ (show Cp "any" <= 1000 by decide)) (Y.short x);rcases e r g with⟨a,f,s,rfl,_⟩|⟨a,b,rfl,_⟩|⟨a,rfl,_⟩
 . exact#[(show 4<=5 by decide),λx c=>(Ak.mp c).elim (λz=>z ▸ (show Cp "cell" <= 1000 by decide)) (d x)]
 . exact#[(show 3<=5 by decide),λx c=>(Ak.mp c).elim (λz=>z ▸ (show Cp "stretch" <= 1000 by decide)) (d x)]
 exact#[(show 2<=5 by decide),λx c=>(Ak.mp c).elim (λz=>z ▸ (show Cp "tree" <= 1000 by decide)) (d x)]]
structure TP(ys:fJ)(F P:fG):Prop where
 f:∀r∈F,PoolRow (ys++[("nil":fS)]) r
 p:∀r∈P,CPart (ys++[("nil":fS)]) r
 fl:F.length<=3
 pl:P.length<=5
theorem TP.in_(T:TP ys F P)(b:r∈F++P):∀x∈r.drop 1,x="any" \/ x∈ys++[("nil":fS)]:=λx a=>by
 rcases Ab.mp b with z|z;exact .inr ((T.f r z).in_ x a);exact(T.p r z).in_ x a
theorem TP.wds(T:TP ys F P)(h:y∈ii (F++P)):y∈ys:=by
 let(r,a,h1,h2):=mem_words.mp h;rcases T.in_ a y h1 with z|z;exact fF (by rw[z];decide) h2
 rcases Ab.mp z with z|z;exact z;exact fF (by rw[Ae.mp z];decide) h2
theorem TP.wd(T:TP ys F P)(Y:Ys ys):WdOk (ys++[("nil":fS)]) F P:=by
 refine#[Y.fs T.f (by let:=T.fl;lia),Y.ps T.p T.pl,λr d=>?_,λy c=>Ab.mpr (.inl (T.wds c))];rcases Ab.mp d with z|z;let(k,u,v,rfl,_):=T.f r z;exact HS _ _;rcases T.p r z with⟨a,f,s,rfl,_⟩|⟨a,b,rfl,_⟩|⟨a,rfl,_⟩<;>exact HS _ _
theorem TP.dom(T:TP ys F P)(Y:Ys ys)(hz:∀y∈ii (F++P),y∈zs)(b:r∈F++P)(a:x∈r.drop 1)(hp:x∈ys++[("nil":fS)]):Dom zs x:=by
 rcases Ab.mp hp with z|z;exact .inr (hz x (mem_words.mpr #[r,b,a,(Y.nm x z).2]));exact .inl (Ae.mp z)
theorem agk(Y:Ys ys)(T:TP ys F P)(U:TP ys G S)(hz:∀y,y∈zs↔y∈ii (F++P)\/y∈ii (G++S))(j:zs.length<=40):Gd (ys++[("nil":fS)]) zs F P G S:=by
 let i:∀y∈ii (F++P),y∈zs:=λy h=>(hz y).mpr (.inl h);let c:∀y∈ii (G++S),y∈zs:=λy h=>(hz y).mpr (.inr h);let g:∀y∈zs,y∈ys:=λy h=>((hz y).mp h).elim T.wds U.wds;refine#[λr a=>(T.f r a).fact,λr a x b=>T.dom Y i (Ab.mpr (.inl a)) b ((T.f r a).in_ x b),λr a=>(T.p r a).pd λx b hp=>T.dom Y i (Ab.mpr (.inr a)) b hp,λh=>?_,by let:=T.pl;lia,
  #[λr a=>(U.f r a).fact,λr a x b=>U.dom Y c (Ab.mpr (.inl a)) b ((U.f r a).in_ x b),λr a=>(U.p r a).pd λx b hp=>U.dom Y c (Ab.mpr (.inr a)) b hp,Y.fs U.f (by let:=U.fl;lia),Y.ps U.p U.pl,λy d=>#[c y d,λe=>Y.nn (e ▸ U.wds d)],by let:=U.pl;lia,by let:=U.fl;lia],λx b=>?_,by lia]
 . rcases h with z|z;exact fF z (by decide);exact(Y.nm _ (g _ z)).2 (by decide)
 rcases b with rfl|z;exact Ab.mpr (.inr (Ae.mpr rfl));exact Ab.mpr (.inl (g x z))
structure FIn(K:Aa)(H:Hp)(d h:IS)(kv:eZ (Key×V))(cs:ig):Prop where
 vals:H d=eV (.dK kv)
 num:IntsAt kv
 heap:∃hp,H h=eV (.dK (hv hp))/\CellsAt K H hp cs
 nd:(cs.map (·.1)).Nodup
 len:cs.length<=100
section
theorem a03(h:CellsAt K H hp cs)(e:Same H H'):CellsAt K H' hp cs:=by
 unfold CellsAt at h |-;induction h with|nil=>exact .nil|cons h _ ih=>exact .cons #[h.1,e.seqT h.2] ih
theorem FIn.same(I:FIn K H d h kv cs)(e:Same H H'):FIn K H' d h kv cs:=by
 let(hp,h1,h2):=I.heap;exact#[e _ _ I.vals,I.num,#[hp,e _ _ h1,a03 h2 e],I.nd,I.len]
theorem nh:∀{l:eZ α},(∀x∈l,R x (f x))->IZ R l (l.map f)
 |[],_=>.nil
 |x::l,h=>.cons (h x (Af ..)) (nh λy a=>h y (Ag _ a))
theorem ul(I:FIn K H d h kv cs)(Y:Ys ys)(T:TP ys F P)(o:T2At K H m F P)(i:∀r∈F++P,∀x∈r.drop 1,x="any" \/ (valV kv (Sum.inr x)).isSome=eX)(q:∀(b:gQ) H',Same H H'->(b=eX↔∃R,Fol.Fits (vI kv) (gq cs) F P R)->Q (.bl b) H'):spFits K [.ref d,.ref h,.ref m] H Q E:=by
 let(hp,h1,h2):=I.heap;let(fl,y,A,v,t):=o;let k:∀r∈P,PartRow r:=λr c=>(T.p r c).row;let j:∀r∈P,∀x∈r.drop 1,x∈ys++[("nil":fS)]->(valV kv (Sum.inr x)).isSome=eX:=λr c x u n=>(i r (Ab.mpr (.inr c)) x u).resolve_left (Y.na x n);refine#[d,h,m,fl,y,kv,hp,cs,F,P,P.map (lr kv cs),fR,#[I.vals,I.num,h1,h2,A,v,λr c=>(T.f r c).fact,λr c=>#[i r (Ab.mpr (.inl c)),λz=>Y.na _ ((T.f r c).in_ _ z) rfl],t,k,λr c=>#[i r (Ab.mpr (.inr c)),?_,λl=>?_],nh λr c=>ab1 (k r c) (by let:=I.len;lia),a50 k (by let:=T.pl;lia) I.len,by let:=T.pl;lia],λb H' e w=>q b H' e (w.trans (a1y I.nd (λr c=>(T.f r c).fact) k))];let:=j r c;rcases T.p r c with⟨a,f,s,rfl,g,_⟩|⟨a,b,rfl,g,_⟩|⟨a,rfl,g⟩<;>exact this a (Af ..) g
 let:=j r c;rcases T.p r c with⟨a,f,s,rfl,g,_⟩|⟨a,b,rfl,_,g⟩|⟨a,rfl,g⟩
 . exact fF l (show ¬ ("cell":fS)="stretch" by decide)
 . exact this b (Ag _ (Af ..)) g
 exact fF l (show ¬ ("tree":fS)="stretch" by decide)
variable{K:Aa}{H:Hp}{cs:ig} in
theorem cells_of:∀{hp:eZ (fB×IS)},CellsOk K H hp->∃cs,CellsAt K H hp cs/\cs.map (·.1)=hp.map (·.1)
 |[],_=>#[[],.nil,fR]
 |p::hp,hc=>by
  let(f,s,h1):=hc p (Af ..);let(cs,h2,h3):=cells_of (hp:=hp) λq a=>hc q (Ag _ a);exact#[(p.1,f,s)::cs,.cons #[fR,h1] h2,by rw[A5,A5,h3]]
theorem a8t(h1:H d=eV (.dK kv))(a:VlOk kv (("nil":fS)::ys) 6)(h2:H h=eV (.dK (hv hp)))(h3:CellsOk K H hp)(j:(hp.map (·.1)).Nodup)(m:hp.length<=20)(k:∀p∈hp,p.1≠0):∃cs,FIn K H d h kv cs/\gq cs 0=eW/\vI kv "nil"=0/\∀x∈ys++[("nil":fS)],(valV kv (Sum.inr x)).isSome=eX:=by
 let(cs,g,i):=cells_of h3;let cl:cs.length=hp.length:=by let:=fX EJ i;rwa [Ad,Ad] at this
 refine#[cs,#[h1,λx=>?_,#[hp,h2,g],by rw[i];exact j,by lia],?_,?_,λx l=>a.all x ?_]
 . cases hz:valV kv (Sum.inr x) with
   |none=>exact .inl rfl
   |some v =>
    let(n,h1,_):=a.at_ (x:=x) (by rw[hz];rfl);refine .inr ?_;unfold vI;rw[h1] at hz;rw[h1];cases hz;rfl
 . rcases g.look 0 with⟨_,z⟩|⟨t,f,s,g1,_,_⟩
   . exact z
   exfalso;unfold valV hv at g1;cases hf:((hp.map λp=>((Sum.inl p.1,V.ref p.2):Key×V)).find? λq=>decide (q.1=(Sum.inl 0:Key))) with
   |none=>rw[hf] at g1;cases g1
   |some q =>
    let(p,b,e):=As.mp (Bj hf);let c:q.1=(Sum.inl 0:Key):=by simpa using Cy hf
    rw[<- e] at c;exact k p b (B5 c)
 . unfold vI;rw[a.nil];rfl
 rcases Ab.mp l with z|z;exact Ag _ z;rw[Ae.mp z];exact Af ..
theorem a4z(m:eZ (fS×fB)):(∀x,vI (putK (Cv.dv m) (Sum.inr "nil") (.int 0)) x=Cv.num m x)/\IntsAt (putK (Cv.dv m) (Sum.inr "nil") (.int 0))/\∀x:fS,(x="nil" \/ (Cv.lkI m x).isSome=eX)->(valV (putK (Cv.dv m) (Sum.inr "nil") (.int 0)) (Sum.inr x)).isSome=eX:=by
 let key:∀x:fS,valV (putK (Cv.dv m) (Sum.inr "nil") (.int 0)) (Sum.inr x)=if x="nil" then eV (.int 0) else(Cv.lkI m x).map V.int:=λx=>by
  rw[jx];by_cases c:x="nil";rw[fE (fX Sum.inr c),fE c];rw[fD (λz=>c (BR z)),fD c,Cv.valV_dv]
 let kv:∀x,vI (putK (Cv.dv m) (Sum.inr "nil") (.int 0)) x=Cv.num m x:=λx=>by
  unfold vI Cv.num;rw[key];by_cases c:x="nil";rw[fE c,fE c];rfl;rw[fD c,fD c];cases Cv.lkI m x<;>rfl
 refine#[kv,λx=>?_,λx a=>?_]
 . rw[kv,key];unfold Cv.num;by_cases c:x="nil";rw[fE c,fE c];exact .inr rfl
   . rw[fD c,fD c];cases Cv.lkI m x with|none=>exact .inl rfl|some n=>exact .inr rfl
 rw[key];by_cases c:x="nil";rw[fE c];rfl
 rw[fD c];let:=a.resolve_left c;cases hz:Cv.lkI m x with|none=>rw[hz] at this;cases this|some n=>rfl
end
abbrev sLaw:JA:=top 47
theorem afn(ns:eZ fB):∃a:eZ fB,cutV (ns.map V.int) (eV 3) (eV 15)=a.map V.int/\a.length<=16:=by
 unfold cutV;refine#[(ns.drop (HT.sIx (ns.map V.int).length 0 (eV 3))).take (HT.sIx (ns.map V.int).length (ns.map V.int).length (eV 15)-HT.sIx (ns.map V.int).length 0 (eV 3)),by rw[EW,EX],?_];rw[AG];let h1:HT.sIx (ns.map V.int).length (ns.map V.int).length (eV 15)<=15:=by
  rw[show(15:fB)=((15:fC):fB) from rfl,HT.sIx_nat];lia
 lia
theorem Paired.dropP:∀{l:eZ α}{m:eZ β}(k:fC),IZ R l m->IZ R (l.drop k) (m.drop k)
 |_,_,0,h=>h
 |_,_,_+1,.nil=>.nil
 |_,_,k+1,.cons _ t=>Paired.dropP k t
theorem a3h{R:V->Prop}(b:∀y,R y->∃n:fB,y=.int n):∀{xs ys:eZ V},IZ (λ_ y=>R y) xs ys->∃a:eZ fB,ys=a.map V.int/\a.length=xs.length
 |_,_,.nil=>#[[],fR,fR]
 |_,_,.cons h t=>by
  let(n,rfl):=b _ h;let(a,rfl,hl):=a3h b t;exact#[n::a,fR,by rw[Au,Au,hl]]
theorem afj{a:eZ fB}{i:fC}(h:(a.map V.int)[i]?=eV x):∃n,x=.int n:=by
 let(n,_,e):=As.mp (Ar h);exact#[n,e.symm]
theorem StAt.same(h:StAt K H t F P G S a)(e:Same H H'):StAt K H' t F P G S a:=by
 let(d,h,m,cs,h1,h2,h3,b):=h;exact#[d,h,m,cs,e _ _ h1,e _ _ h2,h3.same e,b]
inductive LI_ans(K:Aa)(H:Hp)(fd:IS)(F:fG)(P:fG)(G:fG)(S:fG):Prop
 |mk (zs:fJ)(h0:(∀y,y∈zs↔y∈ii (F++P)\/y∈ii (G++S)))(h1:AnsAt K H fd F P G S zs):LI_ans K H fd F P G S
structure LI(K:Aa)(H:Hp)(a l o t fd:IS)(ns:eZ fB)(ys:fJ)(F P G S:fG):Prop where
 hA:SqL K H a (ns.map V.int)
 hl:H l=eV (.lst (ys.map V.str))
 Y:Ys ys
 T:TP ys F P
 T1:T2At K H o F P
 U:TP ys G S
 U1:T2At K H t G S
 ans:LI_ans K H fd F P G S
theorem LI.same(h:LI K H a l o t fd ns ys F P G S)(e:Same H H'):LI K H' a l o t fd ns ys F P G S:=by
 let(zs,h1,h2):=h.ans;exists e.seq h.hA,e _ _ h.hl,h.Y,h.T,h.T1.same e,h.U,h.U1.same e,zs,h1;cases h2 with|paper p f=>exact .paper (p.same e) f|state s=>exact .state (s.same e)
theorem LI.word(h:LI K H a l o t fd ns ys F P G S):∃(k:fS) (vs:eZ V),SqT K H fd (.str k::vs)/\(k="paper" -> mz F P G S):=by
 let(zs,_,h2):=h.ans;cases h2 with
 |paper p f =>
  let(z,_,b,_):=p;exact#["paper",[.ref z],SqT.of b,λ_=>f]
 |state s =>
  let(d,h,m,cs,h1,_):=s;exact#["state",[.ref d,.ref h],SqT.of h1,λz=>fF z (by decide)]
inductive tFdS(K:Aa)(D:Ends)(σ:St)(H:Hp):Prop
 |mk (a l o t fd:IS)(c tn m:fB)(ns:eZ fB)(ys:fJ)(F P G S:fG)(h0:σ=[rQ a,rQ l,iQ c,rQ o,iQ tn,iQ m,rQ t,rQ fd,nQ,nQ])(h1:LI K H a l o t fd ns ys F P G S)(h2:∀z8 H',Same H H'->D.nx [rQ a,rQ l,iQ c,rQ o,iQ tn,iQ m,rQ t,rQ fd,z8,nQ] H'):tFdS K D σ H
def tFd(K:Aa):TS:=λD σ H=>tFdS K D σ H
theorem aee(C:Con K mg w)(F:Fun K "law" "law" sLaw f fd)(GC:FnOk P w K mg base CX0 1 gC dC eS (a79 K))(R:eQ GC "_law_cell_at")(GN:FnOk P w K mg base CX0 2 gN dN eT (uh K))(cN:eQ GN "_law_names")(GF:FnOk P w K mg base CX0 2 gF dF ["_law_cell","_law_names_here","_law_most"] (a37 K))(cF:Cal K mg "_law_facts" gF dF ["_law_cell","_law_names_here","_law_most"])(GH:FnOk P w K mg base CX0 2 gH dH ["_law_cell","_law_names_here"] (a2l K))(cH:Cal K mg "_law_chain" gH dH ["_law_cell","_law_names_here"])(GJ:FnOk P w K mg base CX0 2 gJ dJ ["_law_parts","_law_cell"] (a1t K))(cJ:Cal K mg "_law_joined" gJ dJ ["_law_parts","_law_cell"])(GB:FnOk P w K mg base CX0 2 gB dB ["_law_parts","_law_cell","_law_names_here"] (a8i K))(cB:Cal K mg "_law_bent" gB dB ["_law_parts","_law_cell","_law_names_here"])(GM:FnOk P w K mg base CX0 1 gM dM ["_law_cell","_law_k"] nk)(cM:Cal K mg "_law_mixed" gM dM ["_law_cell","_law_k"])(GW:FnOk P w K mg base CX0 2 gW dW ["_law_telling","_law_names_here","_law_cell"] (a2y K))(cW:Cal K mg "_law_grown" gW dW ["_law_telling","_law_names_here","_law_cell"])(GT:FnOk P w K mg base CX0 3 gT dT ["_law_values","_law_heap","_law_telling"] (spFits K))(O:Cal K mg "_law_fits" gT dT ["_law_values","_law_heap","_law_telling"])(GL:FnOk P w K mg base CX0 40 gL dL ["one","other"] (x5 K))(cL:Cal K mg "followed" gL dL ["one","other"]):FnOk P w K mg base CX0 41 f fd ["_law_script"] (zv K):=by
 refine F.okA ["_law_script","_law_names_here","_law_cell","_law_one","_law_turn","_law_m","_law_other","_law_found","_law_values","_law_heap"] λbE A outer s0 H vs Q E S h nd=>?_;let(a,ns,rfl,hA,q):=h;let a7:=j4 S;let N:=S.mono (j:=1) (by lia);let L:=S.mono (j:=2) (by lia);let al:=S.mono (j:=3) (by lia);exists _,fc (fz 1 nd (gm GN L cN (i7 (gm GC N R (fg (qv 0) (ja fb))) (ja fb))))
  (fc (fz 2 nd (gm GC N R (fg (qv 0) (ja fb))))
  (fc (fz 3 nd (ij (i7 (gm GF L cF (fg (qv 2) (fg (qv 1) (ja fb)))) (i7 (gm GH L cH (fg (qv 2) (fg (qv 1) fb))) fb))))
  (fc (fz 4 nd (gm GC N R (fg (qv 0) (ja fb))))
  (fc (fz 5 nd (gm GM N cM (fg (qv 4) (ja fb))))
  (fc (fz 6 nd (ij (ft (kz nu (fi K (qv 3) dl) (lj (fj gx (fj ib (qv 5) dl) dl)) mq) (i7 (gm GB L cB (i7 (gm GJ L cJ (ft (fi K (qv 3) dl) (fg (qv 4) fb))) (fg (qv 4) (fg (qv 1) fb)))) fb))))
  (fc (fz 7 nd (gm GL S cL (mx (i7 (iz km rfl C.list Be (ft (fi K (qv 3) dl) fb)) (i7 (iz km rfl C.list Be (ft (fi K (qv 3) dl) fb)) fb)) (mx (i7 (iz km rfl C.list Be (ft (fi K (qv 6) dl) fb)) (i7 (iz km rfl C.list Be (ft (fi K (qv 6) dl) fb)) fb)) fb))))
  (fc (nv (t':=tFd K) (gg (fo gk (fi K (qv 7) dl) gj (fm _)) (fc (fz 8 nd (iz a7y rfl C.dict PyProof.Rows.boot_dict (ft (fi K (qv 7) dl) fb)))
  (fc (jg a7 (qv 8) gj dl)
  (ff (gg (QW.qt (mo (ld (j5 (gm GT al O (fg (qv 8) (ft (fi K (qv 7) dl) (fg (qv 3) fb)))))) (ls (j5 (gm GT al O (fg (qv 8) (ft (fi K (qv 7) dl) (fg (qv 6) fb)))))))) (ff (fx md)) gd)))) (ff (gg (fo kc (fi K (qv 7) dl) gj (fm _)) (ff (fx md)) gd))) (λD σ H hh=>?w1))
  (fc (im A1 rfl (iq (fj lc (kz nu (qv 0) (lj dl) (lj dl)) (nr ["_law_k","_law_script"] [0] (jk rfl C.range (ja fb)) (λ_ _ _ _=>m9) (λ_ _ _ _=>(fj li dl (gm GM N cM (j9 (fj i3 (gm GC N R (fg (qv 1) (ja fb))) (fj li dl (qv 0))) (j9 (fj i3 dl (qv 0)) fb)))))))) (ip 4 nd) (fc (a11 (gm GW L cW (fg (qv 3) (fg (qv 1) (fg (qv 4) fb)))) (a2s (ip 8 nd) (ip 9 nd)))
  (ff (gg (QW.qt (j6 (j5 (gm GT al O (fg (qv 8) (fg (qv 9) (fg (qv 3) fb))))) (j6 (ld (j5 (gm GT al O (fg (qv 8) (fg (qv 9) (fg (qv 6) fb)))))) (je (fo gk (fi K (qv 7) dl) gj (fm _)))))) (ff (fx md)) gd))))
  (ff (fx md))))))))))
 nofun
 case w1 =>
  let(a,l,o,t,fd,c,tn,m,ns,ys,v,Ps,Gs,Ss,rfl,I,go):=hh;let(zs,hz,ha):=I.ans;cases ha with
  |paper p f =>
   let(z,us,p1,_):=p;refine#[_,fR,fd,_,0,.str "paper",fR,fR,SqT.of p1,fR,fR,_,fR,iteB (λc=>fF c (by decide)) (λc=>?_)];refine#[_,fR,fd,_,0,.str "paper",fR,fR,SqT.of p1,fR,fR,_,fR,iteB (λc=>fF c (by decide)) (λc=>go eW H (Same.refl _))]
  |state s =>
   let(d,h,u,cs,h1,h2,h3,h4,h5,h6,h7,h8):=s;refine#[_,fR,fd,_,0,.str "state",fR,fR,SqT.of h1,fR,fR,_,fR,iteB (λc=>?_) (λc=>fF c (by decide))];refine#[_,fR,fd,_,1,.ref d,fR,fR,SqT.of h1,fR,d,_,fR,h2,λd2 aO=>?_];let s2:=fe aO (.dK (Cv.dv u));let q2:=ad (H:=H) (a:=d2) (o:=.dK (Cv.dv u));let e3:Same H (upd (upd H d2 (.dK (Cv.dv u))) d2 (.dK (putK (Cv.dv u) (Sum.inr "nil") (.int 0)))):=gz aO s2 _;let q3:=ad (H:=upd H d2 (.dK (Cv.dv u))) (a:=d2) (o:=.dK (putK (Cv.dv u) (Sum.inr "nil") (.int 0)));exists _,fR,d2,_,fR,DPut.k (k:=Sum.inr "nil") q2 (jf (by rw[show(Cv.dv u).length=u.length from Ad ..];lia));generalize upd (upd H d2 (.dK (Cv.dv u))) d2 (.dK (putK (Cv.dv u) (Sum.inr "nil") (.int 0)))=H3 at e3 q3 |-;let(v1,v2,v3):=a4z u;let hI:FIn K H3 d2 h (putK (Cv.dv u) (Sum.inr "nil") (.int 0)) cs:=#[q3,v2,(by let(hp,z1,z2):=h3.same e3;exact#[hp,z1,z2]),h4,h5.1]
   let aa:∀{Fx Px:fG},TP ys Fx Px->(∀y∈ii (Fx++Px),y∈zs)->∀r∈Fx++Px,∀x∈r.drop 1,x="any" \/ (valV (putK (Cv.dv u) (Sum.inr "nil") (.int 0)) (Sum.inr x)).isSome=eX:=λ{Fx Px} T hw r S x hx=>(T.in_ S x hx).imp id λhp=>v3 x (by
    by_cases c:x="nil";exact .inl c
    exact .inr (h6 x ((T.dom I.Y hw S hx hp).resolve_left c) c))
   let ve:vI (putK (Cv.dv u) (Sum.inr "nil") (.int 0))=Cv.num u:=funext v1;exists _,fR,_,fR,fd,_,2,.ref h,fR,fR,SqT.of (e3 _ _ h1),fR,_,rfl;refine ul (E:=E) hI I.Y I.T (I.T1.same e3) (aa I.T λy hy=>(hz y).mpr (.inl hy)) λb H4 e4 hb=>?_;let bj:b=eX:=hb.mpr (by rw[ve];exact h7);subst bj;refine#[_,fR,iteB (λc=>by cases c) (λ_=>?_)];let aG:=e3.trans e4;exists _,fR,_,fR,fd,_,2,.ref h,fR,fR,SqT.of (aG _ _ h1),fR,_,rfl;refine ul (E:=E) (hI.same e4) I.Y I.U (I.U1.same aG) (aa I.U λy hy=>(hz y).mpr (.inr hy)) λb2 H5 e5 az=>?_;let bl:b2=eY:=by
    cases b2 with|false=>rfl|true=>exact fF (az.mp rfl) (by rw[ve];exact h8)
   subst bl;exact#[_,fR,iteB (λc=>by cases c) (λ_=>go _ H5 (aG.trans e5))]
 refine#[_,fR,a,ns,0,fR,hA,_,5,fR,by lia,λl ys H1 e1 hl G hy=>?_];let Y:Ys ys:=#[G,hy]
 exists _,fR,a,ns,1,fR,e1.seq hA;refine#[_,fR,_,fR,le ns 1,l,ys,fR,hl,G,λfl v H2 e2 _ hF aX ar=>?_];refine#[_,fR,_,fR,le ns 1,l,ys,fR,e2 _ _ hl,G,λpl Ps H3 e3 _ hP aw aH=>?_];let T:TP ys v Ps:=#[ar,aH,aX,aw]
 refine#[fK,λo ho=>?_];let s4:=fe ho (.tup [.ref fl,.ref pl]);let q4:=ad (H:=H3) (a:=o) (o:=.tup [.ref fl,.ref pl]);let aE:=(hF.same e3).same s4;let ap:=hP.same s4;let e4:=e1.trans (e2.trans (e3.trans s4));let aB:=s4 _ _ (e3 _ _ (e2 _ _ hl));show jh 3 (V.ref o) _ (upd H3 o (.tup [.ref fl,.ref pl])) _;generalize upd H3 o (.tup [.ref fl,.ref pl])=H4 at q4 aE ap e4 aB |-;exists _,rfl,a,ns,2,rfl,e4.seq hA;refine#[_,rfl,le ns 2,2,rfl,by lia,λm hm=>?_];obtain⟨k,hk⟩:∃k:fC,m / 2 % 3=(k:fB):=#[(m / 2 % 3).toNat,by lia]
 let(ah,f1,f2):=id aE;refine#[_,fR,o,_,0,.ref fl,fR,fR,SqT.of q4,fR,_,fR,_,_,fR,fR,(show CDiv _ 2 from#[by decide,by decide]),_,_,fR,fR,(show(0:fB)<3 by decide),_,fR,fl,_,fR,SqL.of f1,λl5 aI=>?_];rw[hk,a0z,<- EX];let s5:=fe aI (.lst ((ah.drop k).map V.ref));let q5:RowsAt K (upd H4 l5 (.lst ((ah.drop k).map V.ref))) l5 (v.drop k):=#[ah.drop k,ad,kx s5 (Paired.dropP k f2)]
 generalize upd H4 l5 (.lst ((ah.drop k).map V.ref))=H5 at s5 q5 |-;refine#[_,rfl,o,_,1,.ref pl,rfl,rfl,SqT.of (s5 _ _ q4),rfl,_,rfl,le ns 2,pl,Ps,ys++[("nil":fS)],rfl,ap.same s5,aw,aH,λjl Js H6 e6 _ hJ bi bk=>?_];refine#[_,fR,_,fR,le ns 2,jl,l,Js,ys,fR,hJ,bi,bk,λy br=>(hy y br).1.ok,e6 _ _ (s5 _ _ aB),G,λsl Ss H7 e7 hS bb bv=>?_];refine#[fK,λt ht=>?_];let s8:=fe ht (.tup [.ref l5,.ref sl]);let q8:=ad (H:=H7) (a:=t) (o:=.tup [.ref l5,.ref sl]);let aF:=e6.trans (e7.trans s8);let e:=s5.trans aF;let ak:=q5.same aF;let af:=hS.same s8;show jh 6 (V.ref t) _ (upd H7 t (.tup [.ref l5,.ref sl])) _;generalize upd H7 t (.tup [.ref l5,.ref sl])=H8 at q8 e ak af |-;let U:TP ys (v.drop k) Ss:=#[λr S=>ar r (CF S),bv,by rw[By];lia,bb]
 let aq:=aE.same e;let aD:=ap.same e;let bg:=e4.trans e;clear e1 e2 e3 s4 e6 e7 s8 aF s5;let(ai,aP,a3):=id aq;let(ae,aY,a5):=id aD;let(ag,aU,aQ):=id ak;let(am,aS,aN):=id af;let o8:=e _ _ q4;refine#[_,fR,o,_,0,.ref fl,fR,fR,SqT.of o8,fR,fl,_,fR,.inl (SqL.of aP),λc1 bo=>?_];let(G1,z0,n1,m1):=qi bo (.lst (ai.map V.ref));rw[z0];refine#[_,fR,o,_,1,.ref pl,fR,fR,SqT.of (n1 _ _ o8),fR,pl,_,fR,.inl (SqL.of (n1 _ _ aY)),λc2 bd=>?_];let(G2,z3,n2,m2):=qi bd (.lst (ae.map V.ref));rw[z3];refine#[fK,λx1 bz=>?_];let(G3,z5,n3,m3):=qi bz (.tup [.ref c1,.ref c2]);rw[z5];let X:=n1.trans (n2.trans n3);refine#[_,fR,t,_,0,.ref l5,fR,fR,SqT.of (X _ _ q8),fR,l5,_,fR,.inl (SqL.of (X _ _ aU)),λc3 be=>?_];let(G4,z6,n4,m4):=qi be (.lst (ag.map V.ref));rw[z6];let au:=X.trans n4;refine#[_,fR,t,_,1,.ref sl,fR,fR,SqT.of (au _ _ q8),fR,sl,_,fR,.inl (SqL.of (au _ _ aS)),λc4 bC=>?_];let(G5,z7,n5,m5):=qi bC (.lst (am.map V.ref));rw[z7];refine#[fK,λx2 ba=>?_];let(G6,y0,n6,m6):=qi ba (.tup [.ref c3,.ref c4]);rw[y0];let aj:=n4.trans (n5.trans n6);let ao:=n3.trans aj;let B:=X.trans aj;let X1:T2At K G6 x1 v Ps:=#[c1,c2,SqT.of (aj _ _ m3),#[ai,ao _ _ (n2 _ _ m1),kx B a3],#[ae,ao _ _ m2,kx B a5]]
 let X2:T2At K G6 x2 (v.drop k) Ss:=#[c3,c4,SqT.of m6,#[ag,n6 _ _ (n5 _ _ m4),kx B aQ],#[am,n6 _ _ m5,kx B aN]]
 let bB:(ys++[("nil":fS)]).length=6:=by rw[Aj,G];rfl
 refine#[x1,x2,ys++[("nil":fS)],ys++[("nil":fS)],v,Ps,v.drop k,Ss,fR,X1,X2,T.wd Y,U.wd Y,by lia,by lia,bB,λzs hz bA=>agk Y T U hz bA,λt' zs H9 e9 a9 ans=>?_];let Z:=B.trans e9;let I:LI K H9 a l o t t' ns ys v Ps (v.drop k) Ss:=#[(bg.trans Z).seq hA,Z _ _ (e _ _ aB),Y,T,T2At.same (H:=H8) #[fl,pl,SqT.of o8,aq,aD] Z,U,T2At.same (H:=H8) #[l5,sl,SqT.of q8,ak,af] Z,zs,a9,ans]
 clear ans X1 X2 B aj ao m1 m2 m3 m4 m5 m6 n1 n2 n3 n4 n5 n6 X au aP a3 aY a5 aU aQ aS aN aq aD ak af q8 o8 e Z;refine#[a,l,o,t,t',le ns 1,le ns 2,m,ns,ys,v,Ps,v.drop k,Ss,fR,I,λz8 aL bc=>?_];let aM:=I.same bc;let(ms,bx,bH):=afn ns;dsimp only;refine sr (a:=tFor _ _ _) λD1 a8 bI bF=>?_;refine#[_,fR,_,fR,_,fR,a,_,fR,aM.hA,λp1 bq=>?_];rw[bx];let(H11,y1,aW,a1):=qi bq (.lst (ms.map V.int));rw[y1];let a0:=aM.same aW;refine#[_,fR,by decide,by decide,a1v (nums 0 14) (λ_=>eX) (λ_ _ y _=>∃n:fB,y=.int n) vd trivial (by unfold nums;rw[Ad,B6];exact jt (by decide)) (λ_ _ _ _ _ h _=>h) (λx hx M ac Q' q'=>q' M (Same.refl _)) (λD x hx _ M ac _ Q' q'=>?_) λD M vs hD ac aK aR=>?_];let(i,hi,rfl):=As.mp hx;let bJ:=Br.mp hi;refine#[_,fR,a,ns,2,fR,(a0.same ac).hA,_,fR,_,_,fR,fR,(show CMul 5 _ from .inl #[by decide,by decide]),_,_,fR,fR,_,fR,_,_,fR,fR,_,75+i,(by rw[Dk];rfl),by lia,λn hn=>?_];exact#[_,_,fR,fR,(show CMul 2 _ from .inl #[by decide,by decide]),q' _ M (Same.refl _) #[_,fR]]
 let(W,rfl,bh):=a3h (λy h=>h) aR;let bD:W.length=14:=by rw[bh];rfl
 let bm:=a0.same ac;refine#[p1,D,_,_,fR,fR,ac _ _ a1,aK,(by rw[Ad,Ad];exact jt (by lia)),λp3 bs=>?_];rw[<- Ax];let(bf,y2,a6,ay):=qi bs (.lst ((ms++W).map V.int));rw[y2];let aJ:=bm.same a6;exists p3,fR,#[_,SqL.of ay];refine jj (xs:=(ms++W).map V.int) (λi σ H'=>Same bf H'/\∃z4 z8 z9:fA V,σ=[rQ a,rQ l,iQ (le ns 1),rQ o,z4,iQ m,rQ t,rQ t',z8,z9])
  #[Same.refl _,_,_,_,fR] (λi σ H' _ pv=>SqL.of (pv.1 _ _ ay)) ?_ ?_
 . rintro i x σ aV hx ⟨aA,z4,z8,z9,rfl⟩
   nofun
   let(n,rfl):=afj hx;let ax:=aJ.same aA;refine#[_,fR,_,fR,_,fR,o,l,n,v,Ps,ys,fR,ax.T1,ax.hl,G,Y.nn,aX,ar,aw,aH,λg d h kv hp bL aT hg hd V5 hh bu bt aI bp=>?_];let a2:=ax.same aT;let av:=aA.trans aT;let(cs,J,j1,j2,j3):=a8t hd V5 hh bu bt aI bp;let aa:∀{Fx Px:fG},TP ys Fx Px->∀r∈Fx++Px,∀x∈r.drop 1,x="any" \/ (valV kv (Sum.inr x)).isSome=eX:=λT r S x hx=>(T.in_ S x hx).imp id (j3 x);exists g,_,fR,SqT.of hg,fR,_,_,fR,_,_,fR,rfl;exists _,fR,_,fR,_,rfl;refine ul (E:=E) J Y T a2.T1 (aa T) λb bK aC hb=>?_;let an:=av.trans aC;refine#[_,fR,iteB (λc=>?_) (λ_=>#[an,_,_,_,fR])];exists _,fR,_,fR,_,rfl;refine ul (E:=E) (J.same aC) Y U (a2.U1.same aC) (aa U) λb2 bG bn az=>?_;let ab:=an.trans bn;refine#[_,fR,iteB (λc2=>?_) (λ_=>#[ab,_,_,_,fR])];let(k,us,w1,w2):=(aJ.same ab).word;refine#[_,fR,t',_,0,.str k,fR,fR,w1,jo (j:=0) rfl,fR,_,fR,iteB (λc3=>?_) (λ_=>#[ab,_,_,_,fR])];let bw:k="paper" := by simpa using c3
   let aZ:=hb.mp c;let a4:=w2 bw (vI kv) (gq cs) j2 j1 aZ;rw[az.mpr a4] at c2;cases c2
 rintro σ aV ⟨aA,z4,z8,z9,rfl⟩;exact a8 _ _ (q aV)
theorem aaa(X:K.In h)(G:h.Ns IY mg)(e:AY K IY x=eV (eV (.ref a))):Glob mg x (.ref a):=#[_,Dz X G e,fR]
def Gf(K:Aa)(x:fS)(st:JA)(f:IS)(d:JO):Prop:=AY K IY x=eV (eV (.ref f))/\Fun K x x st f d
def Gm(K:Aa)(C:IS)(x q:fS)(st:JA)(f:IS)(d:JO):Prop:=AS K (.ref C) x=eV (eV (.ref f))/\Fj K (.ref f)=eX/\Fun K x q st f d
theorem Gf.cal(F:Gf K x st f fd)(X:K.In h)(G:h.Ns IY mg)(ps:fJ)(c:autoParam (∀(kV a pm:IT) (d:fA IS) (b ct:IT) (us:eZ IT),us.length=ps.length->bindArgs (Cq x x (nw st) (lh st) (i8 st) .none kV a pm d b ct) #[us,[]]=pure (ps.zip us)) a11_):Cal K mg x f fd ps:=#[Dz X G F.1,F.2.kp,F.2.binds c]
theorem Gm.cal(F:Gm K C x q st f fd)(ps:fJ)(c:autoParam (∀(kV a pm:IT) (d:fA IS) (b ct:IT) (us:eZ IT),us.length=ps.length->bindArgs (Cq x q (nw st) (lh st) (i8 st) .none kV a pm d b ct) #[us,[]]=pure (ps.zip us)) a11_):MCal K C x f fd ps:=#[#[F.1,F.2.1,F.2.2.kp],F.2.2.binds c]
theorem all_mk{l:FE}(X:K.In h)(G:h.Ns IY mg)(bM:mg "law"=eV (.ref fa))(m:AY K IY "Knowledge"=eV (eV (.ref a)))(Q:AY K IY "Taking"=eV (eV (.ref b)))(F1:Gf K "names_of" vh f1 d1)(F2:Gf K "check_values" Cv.sCheckV f2 d2)(F3:Gf K "number_of" Cv.sNum f3 d3)(F4:Gf K "holds" Cv.sHolds f4 d4)(F5:Gf K "may_be" Cv.sMay f5 d5)(F6:Gf K "cell_taken" Cv.sCellT f6 d6)(F7:Gf K "stretch_taken" Cv.sStretchT f7 d7)(F8:Gf K "tree_taken" Cv.sTreeT f8 d8)(F9:Gf K "part_taken" Cv.sPartT f9 d9)(av:Gf K "cover" Cv.sCover eh dt)(aM:Gf K "fits" Cv.sFits dI c5)(aK:Gf K "heads_of" w6 c2 es)(ah:Gf K "ends_of" um dk eb)(ay:Gf K "numbered" za dG dj)(az:Gf K "cells_of" a0b c0 c9)(ba:Gf K "state_of" a0g eD eH)(aS:Gf K "shows_against" a3p dC em)(aO:Gf K "state_against" a2t d0 dm)(aH:Gf K "split_paper" a1m c4 dF)(a5:Gf K "shown" a1f de eF)(aQ:Gf K "names_of_both" abu ei eJ)(a4:Gf K "followed" yz dY dP)(au:Gf K "_law_cell_at" a57 dd eo)(aJ:Gf K "_law_mixed" a8h ek eM)(aD:Gf K "_law_free_names" abo cV dQ)(bh:Gf K "_law_names" a7l ey ew)(aw:Gf K "_law_chain" a5g dE eN)(ao:Gf K "_law_joined" a38 eC di)(am:Gf K "_law_facts" a83 ez el)(a0:Gf K "_law_bent" abt dX dz)(ap:Gf K "_law_taken" a7d c1 c6)(a2:Gf K "_law_cover" sCover ec eO)(aA:Gf K "_law_fits" sFits dW dK)(a1:Gf K "_law_laid" abg eB dU)(aX:Gf K "_law_grown" a7q dH c7)(af:Gf K "law" sLaw dn dv)(U:Gm K a "__init__" "Knowledge.__init__" aby cF eL)(al:Gm K a "head" "Knowledge.head" abm dM ds)(aU:Gm K a "alike" "Knowledge.alike" a7g c8 eA)(bk:Gm K a "unlike" "Knowledge.unlike" a2j dL dg)(a6:Gm K a "tell_unlike" "Knowledge.tell_unlike" a6v dR dw)(ax:Gm K a "is_empty" "Knowledge.is_empty" a0q c3 eu)(a7:Gm K a "must_be_full" "Knowledge.must_be_full" yi cY dV)(bd:Gm K a "find_fulls" "Knowledge.find_fulls" a7c ed du)(aF:Gm K a "tell_full" "Knowledge.tell_full" a5i dO et)(bg:Gm K a "clashing" "Knowledge.clashing" a6k dD cX)(aq:Gm K a "shares_place" "Knowledge.shares_place" a3n dr dJ)(ar:Gm K a "open_ends" "Knowledge.open_ends" a5z ef da)(aT:Gm K a "number_at" "Knowledge.number_at" a6p db eE)(aa:Gm K b "__init__" "Taking.__init__" a70 cD ev)(bj:Gm K b "ask_unlike" "Taking.ask_unlike" abr ea cW)(aE:Gm K b "holds" "Taking.holds" a3g dT ee)(aB:Gm K b "take" "Taking.take" acf dy cZ)(be:Gm K b "gives" "Taking.gives" a6i eI dq)(aP:Gm K b "cell_row" "Taking.cell_row" a5n en eg)(aZ:Gm K b "lies_outside" "Taking.lies_outside" ac3 ej dA)(bi:Gm K b "passed" "Taking.passed" a41 eG dx)(a9:Gm K b "stretch_row" "Taking.stretch_row" acg ep dZ)(bf:Gm K b "tree_row" "Taking.tree_row" a6u df eP)(aY:Gm K b "row_of" "Taking.row_of" a5k dh eq)(bb:Gm K b "rows_of" "Taking.rows_of" a2g er dB)(bc:Gm K b "leaves_some" "Taking.leaves_some" a33 dp eK)(n:CG K a Ir=eX)(i:Dc K a=eX)(g:DT K a=eX)(p:AS K (.ref a) "__setattr__"=eV (eV (.builtin "object.__setattr__")))(u:Em K a=eX)(k:BU K (.ref a)=eX)(t:AS K (.ref a) "parts"=eV eW)(d:AS K (.ref a) "heads"=eV eW)(f:AS K (.ref a) "unlikes"=eV eW)(j:AS K (.ref a) "fulls"=eV eW)(o:AS K (.ref a) "not_empty"=eV eW)(F:CG K b Ir=eX)(A:Dc K b=eX)(J:DT K b=eX)(D:AS K (.ref b) "__setattr__"=eV (eV (.builtin "object.__setattr__")))(N:Em K b=eX)(L:BU K (.ref b)=eX)(R:AS K (.ref b) "knowledge"=eV eW)(S:AS K (.ref b) "parts"=eV eW)(I:AS K (.ref b) "taken"=eV eW)(B:AS K (.ref b) "doubt"=eV eW)(E:AS K (.ref b) "amid"=eV eW)(z1:AY K IY "min"=eV eW)(z2:AY K IY "len"=eV eW)(z3:AY K IY "all"=eV eW)(z4:AY K IY "any"=eV eW)(z5:AY K IY "isinstance"=eV eW)(z6:AY K IY "list"=eV eW)(z7:AY K IY "int"=eV eW)(z8:AY K IY "bool"=eV eW)(z9:AY K IY "str"=eV eW)(ce:AY K IY "dict"=eV eW)(br:AY K IY "sorted"=eV eW)(cU:AY K IY "set"=eV eW)(bO:AY K IY "sum"=eV eW)(cc:AY K IY "range"=eV eW)(bL:AY K IY "tuple"=eV eW)(bW:AY K IY "max"=eV eW)(bP:AY K IY "zip"=eV eW)(b8:AY K IY "enumerate"=eV eW)(O:AY K IY "NoValue"=eV (eV (.ref c)))(y:Dx K c [.type "ValueError",.type "Exception",.type "BaseException",.type "object"] "ValueError.__new__"=eX)(gN:AY K IY "NO_NAMES"=eV (eV (.ref aN)))(lN:K.lookup aN=eV oN)(cN:oN.cls=.type "tuple")(dN:oN.data=.seq ae nN)(sN:ae.size<=100)(vN:L2.Vals (Mir.noNames.map V.str) ae.toList):
 ∃fd:JO,(∀(s:IX) (v:IT),BindsTo s fd #[[v],[]] [("_law_script",v)])/\∀base:JG,K.In base->base.Ns IY mg->FnOk l.prog w K mg base CX0 41 fa fd ["_law_script"] (zv K):=by
 let e:=bM.symm.trans (Dz X G af.1);cases e;let C1:=F1.cal X G ["telling"];let C2:=F2.cal X G ["values","telling"];let C3:=F3.cal X G ["values","word"];let C4:=F4.cal X G ["values","fact"];let C5:=F5.cal X G ["values","word","number"];let C6:=F6.cal X G ["values","heap","part"];let C7:=F7.cal X G ["heap","place","end"];let C8:=F8.cal X G ["heap","top"];let C9:=F9.cal X G ["values","heap","part"];let aL:=av.cal X G ["values","heap","telling"];let cS:=aM.cal X G ["values","heap","telling"];let cm:=aK.cal X G ["facts"];let Y:=ah.cal X G ["part"];let b7:=ay.cal X G ["knowledge","names"];let cE:=az.cal X G ["part","values","spares","beside"];let bq:=ba.cal X G ["knowledge","names","amid"];let bU:=aS.cal X G ["state","other","whole"];let bT:=aO.cal X G ["taking","names","other","whole"];let bu:=aH.cal X G ["one","other","names","whole","pair"];let aG:=a5.cal X G ["one","other","names","whole"];let cj:=aQ.cal X G ["one","other"];let cA:=a4.cal X G ["one","other"];let cO:=au.cal X G ["_law_script","_law_k"];let H:=aJ.cal X G ["_law_cell","_law_k"];let bw:=aD.cal X G ["_law_cell","_law_many"];let bQ:=bh.cal X G ["_law_cell","_law_many"];let cp:=aw.cal X G ["_law_cell","_law_names_here"];let cP:=ao.cal X G ["_law_parts","_law_cell"];let cx:=am.cal X G ["_law_cell","_law_names_here","_law_most"];let cn:=a0.cal X G ["_law_parts","_law_cell","_law_names_here"];let cv:=ap.cal X G ["_law_values","_law_heap","_law_part"];let bD:=a2.cal X G ["_law_values","_law_heap","_law_telling"];let bF:=aA.cal X G ["_law_values","_law_heap","_law_telling"];let cT:=a1.cal X G ["_law_heap","_law_values","_law_part","_law_m","_law_free"];let cf:=aX.cal X G ["_law_telling","_law_names_here","_law_cell"];let co:=U.cal ["self","facts","parts"];let Z:=al.cal ["self","word"];let q:=aU.cal ["self","one","other"];let aV:=bk.cal ["self","one","other"];let a8:=a6.cal ["self","one","other"];let cr:=ax.cal ["self","number"];let bl:=a7.cal ["self","number"];let bC:=bd.cal ["self"];let bZ:=aF.cal ["self","number"];let cK:=bg.cal ["self"];let ch:=aq.cal ["self","number"];let b6:=ar.cal ["self"];let aW:=aT.cal ["self","place"];let cQ:=aa.cal ["self","knowledge","parts"];let ak:=bj.cal ["self","one","other"];let bo:=aE.cal ["self","fact"];let ai:=aB.cal ["self","place"];let cC:=be.cal ["self","found","asked"];let cb:=aP.cal ["self","part"];let b4:=aZ.cal ["self","number","end"];let bG:=bi.cal ["self","number","end"];let bK:=a9.cal ["self","part"];let bJ:=bf.cal ["self","part"];let bE:=aY.cal ["self","part"];let bI:=bb.cal ["self","telling"];let b2:=bc.cal ["self"];let C:Con K mg w:={
  noNames:=#[aN,aaa X G gN,λ_=>.inr #[oN,ae,nN,lN,cN,dN,AA sN (by decide),vN]]
  min:=AR X G z1
  len:=AR X G z2
  all:=AR X G z3
  any:=AR X G z4
  isi:=AR X G z5
  list:=AR X G z6
  int:=AR X G z7
  bool:=AR X G z8
  str:=AR X G z9
  dict:=AR X G ce
  sorted:=AR X G br
  set:=AR X G cU
  sum:=AR X G bO
  range:=AR X G cc
  tuple:=AR X G bL
  max:=AR X G bW
  zip:=AR X G bP}
 let En:mg "enumerate"=eW:=AR X G b8;let x:Cv.ErrC K mg "NoValue" c:=#[Dz X G O,y]
 let(_,_,kV,dc,pm,an,cd,ct,_,rfl,_,_):=af.2.ex;refine#[Cq "law" "law" (nw sLaw) (lh sLaw) (i8 sLaw) .none kV dc pm an cd ct,λs v=>.of_eq rfl,λbase _ _=>?_];let T:Txt K mg a cF:=#[#[n,i,g,p],t,d,f,j,o,Dz X G m,#[u,U.1,U.2.1,k]]
 let z:TTxt K mg b cD:=#[#[F,A,J,D],R,S,I,B,E,Dz X G Q,#[N,aa.1,aa.2.1,L]]
 let cG:=a6h (P:=l.prog) (base:=base)  C au.2;let bv:=aeb (P:=l.prog) (base:=base)  C aD.2;let bt:=aay  C bh.2 bv bw;let M:=aa2 (P:=l.prog) (base:=base)  C aJ.2;let b0:=aap  C am.2 M H;let cH:=aad  C aw.2 M H;let bB:=a7t  C ao.2 M H;let bA:=ae7  C a0.2 M H;let cM:=adt (P:=l.prog) (base:=base)  C a1.2;let cR:=a8s  C aX.2 M H cM cT;let bp:=a96 (P:=l.prog) (base:=base)  C ap.2;let ci:=ok_cover  C a2.2 bp cv;let cs:=ok_fits  C aA.2 ci bD;let O1:=a4s (P:=l.prog) (base:=base)  C F1.2;let cz:=adc  C aQ.2 O1 C1;let bR:=a4r (P:=l.prog) (base:=base)  C aK.2;let ab:=ae2 (P:=l.prog) (base:=base) (w:=w)  T al.2.2;let aR:=aac  T a6.2.2 ab Z;let aj:=adb (P:=l.prog) (base:=base) (w:=w) (mg:=mg)  ah.2;let aC:=a89  T bk.2.2 ab Z;let ck:=ad1  T a7.2.2 aj Y aC aV;let bV:=a8p  T aF.2.2 aR a8;let cy:=ad4  C T bd.2.2 ck bl bV bZ;let r:=aa8  T aU.2.2 ab Z;let bn:=aae  T ax.2.2 aj Y r q;let b9:=a9g  C T U.2.2 bR cm aR a8 cy bC bn cr;let b1:=a8x (P:=l.prog) (base:=base) (w:=w)  (C:=a) z aa.2.2;let b3:=aak (P:=l.prog) (base:=base)  C T bg.2.2;let OT:=a9i (P:=l.prog) (w:=w) (mg:=mg) (base:=base) ah.2;let bY:=a5l  C T aq.2.2 r q;let cB:=ab7  T ar.2.2 OT Y bY ch;let ag:=ade  T z bj.2.2 aC aV;let cu:=a73  T z aE.2.2 r q ag ak;let a3:=aas  T aT.2.2 r q;let ac:=acu  T z aB.2.2 a3 aW;let cq:=aa6  T z be.2.2 r q;let bN:=a9r  T z aP.2.2 ac ai cq cC;let cg:=adz  T z aZ.2.2 r q a3 aW aj Y ag ak;let bX:=a84  T z bi.2.2 r q ag ak cg b4;let bz:=adl  T z a9.2.2 ac ai r q bX bG;let b5:=a92  T z bf.2.2 ac ai r q;let bm:=aba  z aY.2.2 bN cb bz bK b5 bJ;let ca:=a60  C z bb.2.2 cu bo bm bE;let bS:=a86 (P:=l.prog) (base:=base)  C T z bc.2.2;let cw:=a26  C T ay.2 ab Z;let cI:=a4d (P:=l.prog) (base:=base) (w:=w) (mg:=mg)  az.2;let cJ:=a4t  C T ba.2 cw b7 cI cE;let O2:=Cv.ok_checkV  C F2.2 O1 C1 x;let O3:=Cv.ok_num (P:=l.prog) (base:=base) (w:=w) (mg:=mg)  F3.2;let O4:=Cv.ok_holds  F4.2 O3 C3;let O5:=Cv.ok_may  F5.2 O3 C3;let O6:=Cv.ok_cellT  F6.2 O3 C3 O5 C5;let O7:=Cv.ok_stretchT (P:=l.prog) (base:=base)  C F7.2;let O8:=Cv.ok_treeT (P:=l.prog) (base:=base)  C F8.2;let O9:=Cv.ok_partT  F9.2 O3 C3 O6 C6 O7 C7 O8 C8;let aI:=Cv.ok_cover  C av.2 O2 C2 O4 C4 O9 C9;let cl:=Cv.ok_fits  C aM.2 aI aL;let bx:=a5r  aS.2 cl cS aI aL;let cL:=a6w  z aO.2 cJ bq bx bU;let bH:=a88  C En T z a5.2 aH.2 b9 co.bind b1 cQ.bind b3 cK cB b6 ca bI bS b2 cL bT aG bu 15;let bs:=a1z  a4.2 cz cj bH aG;exact aee C af.2 cG cO bt bQ b0 cx cH cp bB cP bA cn M H cR cf cs bF bs cA
theorem walk{l:FE}{K:Params->Aa}(hn:l.most=eV 63)(b:d.params.defaults=[])(j:∀(w:JL) (h:JG),g w h->(K w.params).In h)(F:∀(w:JL) (mg:fS->fA IT) (e:IS) (h:JG),(K w.params).In h->h.Ns IY mg->mg d.name=eV (.ref e)->
 ∃fd:JO,(∀(s:IX) (u:IT),BindsTo s fd #[[u],[]] [("_law_script",u)])/\∀base:JG,(K w.params).In base->base.Ns IY mg->FnOk l.prog w (K w.params) mg base CX0 41 e fd ["_law_script"] (zv (K w.params))):
 Iz q c m g l.row.toRowW d [] (λf vs=>HZ f vs) :=
 L2.walk_of (n:=63) (k:=41) (x := "_law_script") (CX:=λ_=>CX0) (sp:=λw=>zv (K w.params)) hn (by decide) b #[fR,by decide,by decide] j F (λ_ _ a ns hl _ i=>#[a,ns,fR,i,λ_=>rfl]) λ_ _ _ _ _ z=>z
end K37
end
open PySem PySem.W PyProof.Rows
structure PySem.W.Fast:Prop where(tw11041564489295843181 tw9406507294319896520 tw153371333947789435 tw14998885809311395597 tw16743510784750827219 tw8258735704380726912 tw11903451533872528119 tw12930377856474065828 tw4830508203615957749 tw13579374512612835218 tw818228088203446855 tw4050824024005343177 tw194951340869198557 tw13841591812577683411 tw15371499333201354643 tw9191291758388435616 tw6763576839280268963 tw14945814042662181096 tw3127614626259558105 tw10522830416423911046 tw15944187274043387077 tw1955373473253044792 tw4020174716360440741 tw9395851208016206859 tw17587175971165349450 tw7610998971942618077 tw12312391444206204476 tw7762288376571502915 tw14820142431689131990 tw9795949750769793279 tw5033695066445925079 tw11050446838156522862 tw18438077050177065118 tw13481417902494224256 tw6695545088112391615 tw18211262535259085359 tw11771219718392492522 tw2150605875716653296 tw7285639041790763278 tw16857139983207470373 tw14994716681799161538 tw11308863552608895148 tw8481071989906777452 tw18370612435504078997 tw9081042969607080831 tw15934876217197192291 tw4653684611425148920 tw5978641647391040769 tw1281587320698282458 tw5734266140676613734 tw17174776185300625729 tw15800563314261834479 tw14662283720524049911 tw15729910062007417431 tw12053959778409307042 tw16664307820253912783 tw13634308860391212763 tw11045967848385041366 tw1517124265976304166 tw9909074895887687770 tw10893141753804230690 tw2501738689864203463 tw7250481911880292727 tw18210225922029457874 tw13802355680188045900 tw5429720706052359091 tw18000166536587695118 tw15299774494338925560 tw7069225904072664202 tw3876009105547367729 tw1793064518679559068 tw11684223723791271490 tw6818325553384589295 tw1668190275192525229 tw7391905711847203181 tw3428180272537245570 tw9407820746308434736 tw2670040323019865173 tw3883174176745218554 tw10037338556374163464 tw12215117325407415764 tw6875436650103343745 tw3988603445323664942 tw15640538295816952170 tw8145910989548891495 tw12403543789522134185 tw6294836436630268629 tw12980231867096583809 tw4171923544861865993 tw13022830465247612765 tw2891051276684734718 tw8797060442662835116 tw3794651636903082825 tw16027209186221668010 tw765578839028040406 tw15861668929446618964 tw9102712298545821181 tw4653287731067046891 tw13137890008813626270 tw14837540845583517871 tw8780195573379863264 tw11968347089603612026 tw10772314821808360142 tw2610039878997942357 tw3986235036799243897 tw8447135094765749190 tw5094242570642088159 tw7081308385100995349 tw2614726200242852036 tw9936526729386566784 tw18418066298684618373 tw6756086595120614783 tw2420654470152657116 tw3766190089609190232 tw2848727589063774188 tw11685719437329079099 tw9700817257117642890 tw5517936142026905003 tw1605692153605324134 tw8753069300507043710 tw1983618900615035326 tw16954794656917060965 tw14103511234021432312 tw6215195574872486423 tw3840776681538139199 tw2074199420012644774 tw15546114662685939567 tw2598721266909598693 tw18084721713858593743 tw16982939657758207497 tw10631613670316161237 tw9315294363591121904 tw16922790447796422939 tw11521524115076170629 tw11722219790418070626 tw10880147130115765606 tw1537593290477538174 tw14282286244710786654 tw3939658527356176164 tw3161447223001720925 tw2117060154892153128 tw12089571379086391763 tw11905488793885633485 tw6657266704187872336 tw2793788918814514280 tw8275868497081511275 tw17570701136380075027 tw14067733476175482618 tw7403411134739337997 tw11503337728864240271 tw1933901729665551420 tw17685233796522064183 tw163100508030461882 tw7826639837813569099 tw1157787519538995638 tw10541821337941093796 tw3409935725580433491 tw12283598293105896208 tw6371276388693689089 tw12796074708352098801 tw17493612593370348088 tw10674907523290230751 tw8349197128725372870 tw10198338738042155240 tw9217482434853743877 tw5800208640948960643 tw3437548448848653504 tw1382748792139845050 tw15156723402770853356 tw18052655011381863106 tw12203664808976068057 tw4345400780940979840 tw9056650423075905075 tw13357945238317084919 tw10681104876992990524 tw7268415024543738051 tw13124343483895081442 tw4928371796308805380 tw7065253018506112002 tw9236294025165955038 tw6332508734754107120 tw5272815477522073351 tw14305686630896055814 tw10080226294698302582 tw17224473656981720221 tw9846616444086272109 tw5178014070409516786 tw12286646887548042137 tw16008565771296033341 tw3267242809736258216 tw2215778844618016292 tw17535622318194605867 tw16771222453924286409 tw6622325137017260572 tw16490600152033164423 tw7676285723057543451 tw16552183161441834121 tw6079578867925155655 tw6827130460518338290 tw14476425014391765478 tw15654467307773248152 tw11708287247108122721 tw12721889038316241633 tw614481225980348267 tw13481953321640613691 tw13064831454369644822 tw18087563594517685406 tw7801024242668975000 tw4828599355250245113 tw5017107162070557493 tw1637319107321069632 tw1297687137912634997 tw1570361121992897466 tw9124174972239016604 tw17665170354241274926 tw6560001809210605139 tw3875862750197265917 tw7166802308982393085 tw3430156282238993742 tw10324196278231792770 tw9825730970375805547 tw10326195106698050221 tw2939994999318534145 tw9206686473456666395 tw14281882186196020613 tw11014801905232473717:True)
set_option maxRecDepth 100000 in
set_option maxHeartbeats 0 in
theorem PySem.Challenge.cw_apart_k37_whole_heaps_fit_holds : PySem.Challenge.rw_apart_k37_whole_heaps_fit.Holds := by
 w_on; o_law; k_head; (case hw => w_witness2)
 k_fill
 refine K37.walk (l := PySem.Challenge.rw_apart_k37_whole_heaps_fit) rfl rfl (λw h Y => PySem.W.kIn_of Y) ?F
 case F =>
   intro w mg fa h KX G hmg
   refine' K37.all_mk KX G hmg ..
   all_goals first
     | (refine' #[?a, L2.fun_mk ?l ?c ?k]; (case a => k_is); (case l => k_is); (case c => k_is); (case k => k_is))
     | (refine' #[?a, ?b, L2.fun_mk ?l ?c ?k]; (case a => k_is); (case b => k_is); (case l => k_is); (case c => k_is); (case k => k_is))
     |k_is
     |k_exc
     |rfl
     |decide
     |decide +kernel
     |exact#[#[_, _, rfl, rfl], #[_, _, rfl, rfl], #[_, _, rfl, rfl], #[_, _, rfl, rfl], #[_, _, rfl, rfl], trivial]
     |exact#[#[_, _, rfl, rfl], #[_, _, rfl, rfl], #[_, _, rfl, rfl], trivial]
     | (repeat (first | exact .nil | refine .cons #[_, rfl] ?_)
        done)
     |skip
